"""Points of a piece: neighbours share just one; and marks that move on them."""

from oddlamps.bits import near_masks
from oddlamps.errors import InvalidCount, InvalidHeights, InvalidLamp, InvalidPoints
from oddlamps.kinds import is_ascending, is_count, is_whole
from oddlamps.marking import distances, fewest, shortest, steepest_slope
from oddlamps.nets import is_lamp, need_piece
from oddlamps.pairing import all_pairings, any_pairing, is_pairing, many_pairings, put_pairing_in_order


def are_points(net, piece, value):
    """Return whether any object is points of a piece."""
    need_piece(net, piece)
    if not (isinstance(value, dict) and len(value) == len(piece)):
        return False
    if not all([lamp in value and _is_pair(value[lamp]) for lamp in piece]):
        return False
    pairing = [value[lamp] for lamp in piece]
    counts = sorted(set([point for pair in pairing for point in pair]))
    return counts == list(range(len(counts))) and is_pairing(near_masks(net, piece), pairing)


def _is_pair(value):
    """Tell whether any object is a tuple of two rising counts."""
    return isinstance(value, tuple) and len(value) == 2 and all([is_count(at) for at in value]) and value[0] < value[1]


def need_points(net, piece, points):
    """Raise an error unless these are points of a piece of a net."""
    if not are_points(net, piece, points):
        raise InvalidPoints(points)


def pairing_of(piece, points):
    """Return points as the list of the tuples, lamp by lamp."""
    return [points[lamp] for lamp in piece]


def _many_points(points):
    """Return how many points there are."""
    return 1 + max([high for _, high in points.values()])


def is_paired(net, piece):
    """Return whether a piece has points."""
    return points_of(net, piece) is not None


def points_of(net, piece):
    """Return any points of a piece, lamps ascending, None if there are none."""
    need_piece(net, piece)
    pairing = any_pairing(near_masks(net, piece))
    return None if pairing is None else dict(zip(piece, pairing))


def put_in_order(net, piece, points):
    """Return the points in order that come of points by calling the counts otherwise, lamps ascending."""
    need_points(net, piece, points)
    return dict(zip(piece, put_pairing_in_order(pairing_of(piece, points))))


def many_ways(net, piece):
    """Return how many points in order a piece has."""
    need_piece(net, piece)
    return many_pairings(near_masks(net, piece))


def all_points(net, piece):
    """Return the ascending list of all points in order of a piece, each as the list of its tuples."""
    need_piece(net, piece)
    return all_pairings(near_masks(net, piece))


def _is_point(points, value):
    """Tell whether any object is one of the counts of points."""
    return is_count(value) and value < _many_points(points)


def _need_point(points, value):
    """Raise InvalidCount unless this is one of the counts of points."""
    if not _is_point(points, value):
        raise InvalidCount(value)


def lamps_at(net, piece, points, point):
    """Return the ascending list of the lamps that join a point to others."""
    need_points(net, piece, points)
    _need_point(points, point)
    return [lamp for lamp in piece if point in points[lamp]]


def doubles(net, piece, points):
    """Return the ascending list of the tuples of two lamps that join the same two points."""
    need_points(net, piece, points)
    return [(one, other) for one in piece for other in piece if one < other and points[one] == points[other]]


def far(net, piece, points, one, other):
    """Return the least number of lamps that lead from one point to another one."""
    need_points(net, piece, points)
    _need_point(points, one)
    _need_point(points, other)
    return distances(pairing_of(piece, points))[one][other]


def _are_marks(points, value):
    """Tell whether any object is an ascending list of points."""
    return isinstance(value, list) and all([_is_point(points, mark) for mark in value]) and is_ascending(value)


def _need_marks(net, piece, points, marks):
    """Raise an error unless these are marks on points of a piece."""
    need_points(net, piece, points)
    if not _are_marks(points, marks):
        raise InvalidCount(marks)


def _need_two_marks(net, piece, points, marks, wished):
    """Raise an error unless these are marks, and as many wished ones, on points of a piece."""
    _need_marks(net, piece, points, marks)
    if not (_are_marks(points, wished) and len(wished) == len(marks)):
        raise InvalidCount(wished)


def _moves_marks(points, marks, lamp):
    """Tell whether a lamp joins a marked point and an unmarked one."""
    low, high = points[lamp]
    return (low in marks) != (high in marks)


def _behind_move(points, marks, lamp):
    """Return the marks behind a move by a lamp."""
    pair = points[lamp]
    return sorted([mark for mark in marks if mark not in pair] + [point for point in pair if point not in marks])


def moves(net, piece, points, marks):
    """Return the ascending list of the lamps by which marks can be moved."""
    _need_marks(net, piece, points, marks)
    return [lamp for lamp in piece if _moves_marks(points, marks, lamp)]


def moved(net, piece, points, marks, lamp):
    """Return the marks behind a move by a lamp."""
    _need_marks(net, piece, points, marks)
    if not (is_lamp(net, lamp) and lamp in points and _moves_marks(points, marks, lamp)):
        raise InvalidLamp(lamp)
    return _behind_move(points, marks, lamp)


def are_moves(net, piece, points, marks, wished, value):
    """Return whether any object is a list of lamps by which marks are moved to wished ones."""
    _need_two_marks(net, piece, points, marks, wished)
    if not isinstance(value, list):
        return False
    now = marks
    for lamp in value:
        if not (is_lamp(net, lamp) and lamp in points and _moves_marks(points, now, lamp)):
            return False
        now = _behind_move(points, now, lamp)
    return now == wished


def fewest_moves(net, piece, points, marks, wished):
    """Return the least number of moves by which marks come to wished ones."""
    _need_two_marks(net, piece, points, marks, wished)
    return fewest(distances(pairing_of(piece, points)), marks, wished)


def shortest_moves(net, piece, points, marks, wished):
    """Return any list of as few lamps as can be by which marks are moved to wished ones."""
    _need_two_marks(net, piece, points, marks, wished)
    return [piece[place] for place in shortest(pairing_of(piece, points), marks, wished)]


def are_shortest_moves(net, piece, points, marks, wished, value):
    """Return whether any object is a list of as few lamps as can be that move marks to wished ones."""
    if not are_moves(net, piece, points, marks, wished, value):
        return False
    return len(value) == fewest_moves(net, piece, points, marks, wished)


def _is_slope(points, value):
    """Tell whether any object is whole numbers by points that differ by one at most along each lamp."""
    many = _many_points(points)
    if not (isinstance(value, dict) and len(value) == many):
        return False
    if not all([is_count(point) and point < many and is_whole(value[point]) for point in value]):
        return False
    return all([abs(value[low] - value[high]) <= 1 for low, high in points.values()])


def _rise(marks, wished, slope):
    """Return the sum of a slope's numbers over wished points less that over marked ones."""
    return sum([slope[point] for point in wished]) - sum([slope[mark] for mark in marks])


def rise(net, piece, points, marks, wished, slope):
    """Return the rise of a slope, which no list of moves from marks to wished ones is shorter than."""
    _need_two_marks(net, piece, points, marks, wished)
    if not _is_slope(points, slope):
        raise InvalidHeights(slope)
    return _rise(marks, wished, slope)


def steepest(net, piece, points, marks, wished):
    """Return any slope with as great a rise as can be, points ascending."""
    _need_two_marks(net, piece, points, marks, wished)
    return dict(enumerate(steepest_slope(pairing_of(piece, points), marks, wished)))


def is_steepest(net, piece, points, marks, wished, value):
    """Return whether any object is a slope with as great a rise as can be."""
    _need_two_marks(net, piece, points, marks, wished)
    return _is_slope(points, value) and _rise(marks, wished, value) == fewest_moves(net, piece, points, marks, wished)
