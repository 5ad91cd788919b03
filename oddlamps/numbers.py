"""How many settings of a piece, or of a net, there are: by signs, by marks, by classes, and still ones."""

from math import comb

from oddlamps.bits import bits_of, near_masks
from oddlamps.errors import InvalidHeights, InvalidLamps
from oddlamps.lists import are_planes, is_idle_base
from oddlamps.nets import need_piece, pieces
from oddlamps.outlook import outlook_in
from oddlamps.points import need_points
from oddlamps.settings import need_setting
from oddlamps.signs import turn_bits
from oddlamps.tallies import numbers_by_pairs, sign_numbers, still_numbers
from oddlamps.tempers import are_heights, ground_in


def _need_piece_and_setting(net, piece, setting):
    """Raise an error unless these are a piece and a setting of a net."""
    need_piece(net, piece)
    need_setting(net, setting)


def by_sign(net, piece, setting):
    """Return the tuple of how many settings of a piece have the sign 0 and the sign 1."""
    _need_piece_and_setting(net, piece, setting)
    return sign_numbers(near_masks(net, piece), turn_bits(net, piece, setting), 0, list(range(len(piece))))


def by_planes(net, piece, setting, planes, base):
    """Return the same, told by planes and an idle base."""
    _need_piece_and_setting(net, piece, setting)
    if not are_planes(net, piece, planes):
        raise InvalidLamps(planes)
    if not is_idle_base(net, piece, base):
        raise InvalidLamps(base)
    pairs = [(bits_of(piece, one), bits_of(piece, other)) for one, other in planes]
    idle = [bits_of(piece, lamps) for lamps in base]
    return numbers_by_pairs(near_masks(net, piece), turn_bits(net, piece, setting), pairs, idle)


def by_marks(net, piece, setting, points, heights):
    """Return the dictionary from the numbers of marked points to how many settings of a piece have them."""
    _need_piece_and_setting(net, piece, setting)
    need_points(net, piece, points)
    if not are_heights(net, piece, points, setting, heights):
        raise InvalidHeights(heights)
    return _numbers_by_marks(len(piece), list(heights.values()))


def _numbers_by_marks(many, level):
    """Return that dictionary for so many lamps, by the levels of their points.

    A deed changes the marks of two points, so that they are odd or even as the levels are.
    """
    ways = 1 << many - len(level) + 1
    return {marks: comb(len(level), marks) * ways for marks in range(sum(level) & 1, len(level) + 1, 2)}


def class_size(net, piece, setting):
    """Return how many settings a piece's class of a setting has."""
    _need_piece_and_setting(net, piece, setting)
    return outlook_in(net, piece, setting).many_so(0, 0)


def class_number(net, piece, setting):
    """Return how many classes all settings of a piece fall into."""
    return sum([many for _, many in classes_by_size(net, piece, setting)])


def classes_by_size(net, piece, setting):
    """Return the ascending list of the tuples of a size and of how many classes of a piece have it."""
    # Each still setting is a class of its own.
    still = sum(still_by_sign(net, piece, setting))
    classes = {1: still} if still else {}
    for size in _moving_sizes(net, piece, setting):
        classes[size] = classes.get(size, 0) + 1
    return [(size, classes[size]) for size in sorted(classes)]


def _moving_sizes(net, piece, setting):
    """Return the sizes of a piece's classes whose settings are not still."""
    ground = ground_in(net, piece, setting)
    if ground is None or ground.odd:
        # With either sign there are more settings than still ones.
        numbers = list(zip(by_sign(net, piece, setting), still_by_sign(net, piece, setting)))
        return [many - still for many, still in numbers]
    numbers_by = _numbers_by_marks(len(piece), ground.level)
    # Where no point is marked, or each one, no lamp is ready.
    return [numbers_by[marks] for marks in numbers_by if 0 < marks < len(ground.level)]


def whole_size(net, setting):
    """Return how many settings of a net can be led to from one."""
    need_setting(net, setting)
    many = 1
    for piece in pieces(net):
        many *= class_size(net, piece, setting)
    return many


def whole_number(net, setting):
    """Return how many classes the settings with the same stuck lamps lit fall into."""
    need_setting(net, setting)
    many = 1
    for piece in pieces(net):
        many *= class_number(net, piece, setting)
    return many


def still_by_sign(net, piece, setting):
    """Return the tuple of how many still settings of a piece have the sign 0 and the sign 1."""
    _need_piece_and_setting(net, piece, setting)
    return still_numbers(near_masks(net, piece), turn_bits(net, piece, setting), 0, list(range(len(piece))))
