"""Rounds of lamps by points of a paired piece, heights of points, and whether the piece is even-tempered."""

from oddlamps.bits import bits_of, is_odd, lamps_of, near_masks, sum_at
from oddlamps.errors import InvalidHeights, InvalidLamps, Unpaired
from oddlamps.grounds import Ground, ground_of, marks_by, point_images
from oddlamps.kinds import is_count, is_whole
from oddlamps.nets import is_list_of, need_piece
from oddlamps.pieceways import way_within
from oddlamps.points import need_points, pairing_of
from oddlamps.settings import is_road, need_setting
from oddlamps.signs import turn_bits
from oddlamps.sums import are_independent, lots_without_image


def is_round(net, piece, points, value):
    """Return whether any object is a round."""
    need_points(net, piece, points)
    return is_list_of(piece, value) and sum_at(point_images(pairing_of(piece, points)), bits_of(piece, value)) == 0


def round_stock(net, piece, points):
    """Return any stock of rounds."""
    need_points(net, piece, points)
    return [lamps_of(piece, lot) for lot in lots_without_image(point_images(pairing_of(piece, points)))]


def is_round_stock(net, piece, points, value):
    """Return whether any object is a stock of rounds."""
    many = len(round_stock(net, piece, points))
    if not (isinstance(value, list) and len(value) == many):
        return False
    if not all([is_round(net, piece, points, lamps) for lamps in value]):
        return False
    return are_independent([bits_of(piece, lamps) for lamps in value])


def _need_points_and_setting(net, piece, points, setting):
    """Raise an error unless these are points of a piece and a setting of a net."""
    need_points(net, piece, points)
    need_setting(net, setting)


def _has_odd_turns(net, piece, setting, lamps):
    """Tell whether lamps of a piece have an odd sum of turns."""
    return is_odd(turn_bits(net, piece, setting) & bits_of(piece, lamps))


def odd_round(net, piece, points, setting):
    """Return any round with an odd sum of turns, None if there is none."""
    _need_points_and_setting(net, piece, points, setting)
    # Of a sum of rounds with an odd sum of turns one of the rounds that are summed has one, too.
    odd = [lamps for lamps in round_stock(net, piece, points) if _has_odd_turns(net, piece, setting, lamps)]
    return odd[0] if odd else None


def is_odd_round(net, piece, points, setting, value):
    """Return whether any object is a round with an odd sum of turns."""
    _need_points_and_setting(net, piece, points, setting)
    return is_round(net, piece, points, value) and _has_odd_turns(net, piece, setting, value)


def _need_temper(net, piece, setting):
    """Raise an error unless this is a paired piece, and a setting of its net."""
    need_piece(net, piece)
    need_setting(net, setting)
    if ground_in(net, piece, setting) is None:
        raise Unpaired(piece)


def ground_in(net, piece, setting):
    """Return a ground of a piece in a setting, without odd lamps if there is such, None if it is not paired."""
    return ground_of(near_masks(net, piece), turn_bits(net, piece, setting))


def temper(net, piece, setting):
    """Return "even" or "twisted", whichever a paired piece is in a setting."""
    return "twisted" if even_points(net, piece, setting) is None else "even"


def even_points(net, piece, setting):
    """Return any points of a paired piece that have heights, None if it is twisted."""
    _need_temper(net, piece, setting)
    ground = ground_in(net, piece, setting)
    return None if ground.odd else dict(zip(piece, ground.pairing))


def heights(net, piece, points, setting):
    """Return the heights with 0 for the point 0, the points ascending, None if there are none."""
    _need_points_and_setting(net, piece, points, setting)
    ground = Ground(pairing_of(piece, points), turn_bits(net, piece, setting))
    return None if ground.odd else dict(enumerate(ground.level))


def are_heights(net, piece, points, setting, value):
    """Return whether any object is heights."""
    own = heights(net, piece, points, setting)
    if own is None or not (isinstance(value, dict) and len(value) == len(own)):
        return False
    if not all([is_count(point) and point in own and is_whole(value[point]) for point in value]):
        return False
    # All heights are those with 0 for the point 0, or these turned about.
    return value[0] in (0, 1) and all([value[point] == own[point] ^ value[0] for point in own])


def marked_by(net, piece, points, setting, value):
    """Return the ascending list of the points that are marked by heights."""
    if not are_heights(net, piece, points, setting, value):
        raise InvalidHeights(value)
    level = [value[point] for point in sorted(value)]
    return marks_by(pairing_of(piece, points), level, bits_of(piece, setting))


def _need_round(net, piece, points, setting, lamps):
    """Raise an error unless this is a round by points of a piece, and a setting of its net."""
    _need_points_and_setting(net, piece, points, setting)
    if not is_round(net, piece, points, lamps):
        raise InvalidLamps(lamps)


def round_road(net, piece, points, setting, lamps):
    """Return any road in which just a round's lamps are switched an odd number of times, None if there is none."""
    _need_round(net, piece, points, setting, lamps)
    lit = bits_of(piece, setting)
    road = way_within(near_masks(net, piece), turn_bits(net, piece, setting), lit, lit ^ bits_of(piece, lamps))
    return None if road is None else [piece[place] for place in road]


def is_round_road(net, piece, points, setting, lamps, value):
    """Return whether any object is such a road, of lamps of the piece alone."""
    _need_round(net, piece, points, setting, lamps)
    if not (is_road(net, setting, value) and all([lamp in points for lamp in value])):
        return False
    return [lamp for lamp in piece if value.count(lamp) & 1] == lamps
