"""Roads in a paired piece, told by places: marks are led along a tree of lamps through all points.

The deed of a lamp that fits the levels exchanges the marks of its points, where just one is marked; that of an odd
lamp turns both marks, where they are alike.
"""

from oddlamps.walks import Walk


def mark_way(masks, ground, turned, lit, wished):
    """Return a road between settings that are joined and not still.

    Lamps that are not of the tree go one by one, an odd one last, which brings as many marks as are wished.
    """
    walk = Walk(masks, turned, lit)
    in_tree = [place for place, _ in ground.tree.values()]
    last = ground.odd[:1]
    for place in range(len(masks)):
        if (walk.lit ^ wished) >> place & 1 and place not in in_tree + last:
            _switch_beside_tree(walk, ground, place)
    marks = ground.marks(wished)
    for place in last:
        _bring_many_marks(walk, ground, place, len(marks))
    _bring_marks_home(walk, ground, marks)
    return walk.road


def _shortest(paths):
    """Return the shortest one of some paths."""
    return sorted([(len(path), path) for path in paths])[0][1]


def _switch_beside_tree(walk, ground, place):
    """Switch a lamp that is not of the tree, the marks being turned or exchanged ahead until it is ready."""
    pair = ground.pairing[place]
    marks = ground.marks(walk.lit)
    if not walk.ready >> place & 1 and len(marks) in (0, len(ground.tree)):
        # No exchange of marks that are all alike helps; an odd lamp is ready then, and turns two of them.
        walk.go(ground.odd[:1])
        marks = ground.marks(walk.lit)
    if not walk.ready >> place & 1:
        walk.go_there_and_back(_shortest([
            ground.path(end, point) for end in pair for point in ground.tree
            if point not in pair and (point in marks) != (end in marks)]))
    walk.go([place])


def _bring_many_marks(walk, ground, place, many):
    """Bring marks to a number by an odd lamp, which turns both marks of its points at a time."""
    pair = ground.pairing[place]
    marks = ground.marks(walk.lit)
    while len(marks) != many:
        for end in pair:
            _mark_end(walk, ground, pair, end, len(marks) > many)
        walk.go([place])
        marks = ground.marks(walk.lit)


def _mark_end(walk, ground, pair, end, marked):
    """Exchange the mark of one point of a lamp, if need be, with that of a point that is not of the lamp."""
    marks = ground.marks(walk.lit)
    if (end in marks) != marked:
        walk.go_there_and_back(_shortest([
            ground.path(end, point) for point in ground.tree if point not in pair and (point in marks) == marked]))


def _bring_marks_home(walk, ground, wished):
    """Bring marks by lamps of the tree to as many wished ones, from the tree's ends inwards.

    The nearest mark of the other kind is led, so that on its way it meets none of its kind.
    """
    left = list(ground.tree)
    while left:
        point = left.pop()
        marks = ground.marks(walk.lit)
        if (point in marks) != (point in wished):
            walk.go(_shortest([
                ground.path(other, point) for other in left if (other in marks) != (point in marks)]))
