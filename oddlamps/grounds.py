"""Grounds: points of a piece with a tree of lamps through all of them, and levels of points that fit the tree.

A point's level is 0 or 1; the levels of a lamp's two points fit if they differ just where its turn is 1. A lamp
whose levels do not fit is odd: without such lamps the levels are heights, as the document calls them.
"""

from oddlamps.bits import mask_of, places_of
from oddlamps.pairing import any_pairing, lots_of, put_pairing_in_order

# The three ways to part four points two by two; of level 1 is the last point alone, so that the first pair of
# each way suits a lamp with the turn 0, the second one a lamp with the turn 1.
PARTINGS = (((0, 1), (2, 3)), ((0, 2), (1, 3)), ((1, 2), (0, 3)))


class Ground:
    """Points of lamps that hang together, told by places, and by their turns levels of the points.

    pairing is the list of the tuples of two points; tree has for each point, those nearer to the point 0 first,
    the lamp and the point that lead to it; level is the list of the levels; odd are the lamps that do not fit.
    """

    def __init__(self, pairing, turned):
        self.pairing = pairing
        self.tree = _tree_of(pairing)
        self.level = _levels_by(self.tree, turned)
        self.odd = [place for place, (low, high) in enumerate(pairing)
                    if self.level[low] ^ self.level[high] != turned >> place & 1]

    def path(self, one, other):
        """Return the lamps of the tree that lead from one point to another one."""
        up = self._path_home(one)
        down = self._path_home(other)
        while up and down and up[-1] == down[-1]:
            up.pop()
            down.pop()
        return up + down[::-1]

    def _path_home(self, point):
        """Return the lamps of the tree that lead from a point to the point 0."""
        path = []
        while point:
            place, point = self.tree[point]
            path.append(place)
        return path

    def marks(self, lit):
        """Return the ascending list of the points that are marked by lit lamps."""
        return marks_by(self.pairing, self.level, lit)


def _tree_of(pairing):
    """Return for each point, those nearer to 0 first, the lamp and the point that lead to it, none to 0."""
    tree = {0: (None, None)}
    waiting = [0]
    while waiting:
        point = waiting.pop(0)
        for place, (low, high) in enumerate(pairing):
            beyond = low + high - point
            if point in (low, high) and beyond not in tree:
                tree[beyond] = (place, point)
                waiting.append(beyond)
    return tree


def _levels_by(tree, turned):
    """Return the list of the levels of the points that fit the lamps of a tree, 0 that of the point 0."""
    level = {0: 0}
    for point in tree:
        if point:
            place, ahead = tree[point]
            level[point] = level[ahead] ^ (turned >> place & 1)
    return [level[point] for point in sorted(level)]


def marks_by(pairing, level, lit):
    """Return the ascending list of the points with either the level 1 or an odd number of lit lamps."""
    marked = list(level)
    for place in places_of(lit):
        for point in pairing[place]:
            marked[point] ^= 1
    return [point for point, mark in enumerate(marked) if mark]


def ground_of(masks, turned):
    """Return a ground of lamps that hang together, without odd lamps if there is such, None without points."""
    lots = lots_of(masks)
    if lots is None:
        pairing = any_pairing(masks)
    else:
        pairs = [PARTINGS[lots.index(mask)][turned >> place & 1] for place, mask in enumerate(masks)]
        pairing = put_pairing_in_order(pairs)
    return None if pairing is None else Ground(pairing, turned)


def point_images(pairing):
    """Return for each lamp its two points as bits: a lot is a round if these sum to nothing."""
    return [mask_of(pair) for pair in pairing]
