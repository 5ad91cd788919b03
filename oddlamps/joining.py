"""Which settings are joined, what parts those that are not, and which joined ones are nearest to others."""

from oddlamps.bits import bits_of, lamps_of, near_masks, places_of
from oddlamps.nets import is_free, is_lamp, is_piece, need_stuck_lamp, pieces, stuck_lamps
from oddlamps.parting import is_still, what_parts
from oddlamps.points import are_points
from oddlamps.settings import is_setting, need_setting, setting_shifted, with_piece_lit
from oddlamps.signs import sign, turn_bits
from oddlamps.tempers import are_heights, even_points, heights, marked_by
from oddlamps.walks import Walk, shortest_roads


def need_settings(net, one, other):
    """Raise an error unless these are settings of a net."""
    need_setting(net, one)
    need_setting(net, other)


def alike_in_stuck(net, one, other):
    """Tell whether the same stuck lamps are lit in two settings."""
    return all([is_free(net, lamp) for lamp in setting_shifted(net, one, other)])


def parted_by(net, piece, one, other):
    """Return "still", "sign" or "marks", by which a piece parts two settings, None if it does not.

    Where stuck lamps differ those that are lit in the one count.
    """
    return what_parts(near_masks(net, piece), turn_bits(net, piece, one), bits_of(piece, one), bits_of(piece, other))


def joined(net, one, other):
    """Return whether two settings are joined."""
    need_settings(net, one, other)
    return alike_in_stuck(net, one, other) and not parting_pieces(net, one, other)


def joined_pieces(net, one, other):
    """Return the ascending list of the pieces that do not part two settings."""
    need_settings(net, one, other)
    return [piece for piece in pieces(net) if parted_by(net, piece, one, other) is None]


def parting_pieces(net, one, other):
    """Return the ascending list of the pieces that part two settings."""
    need_settings(net, one, other)
    return [piece for piece in pieces(net) if parted_by(net, piece, one, other) is not None]


def why_apart(net, one, other):
    """Return any paper that two settings are not joined, None if they are."""
    need_settings(net, one, other)
    unlike = [lamp for lamp in stuck_lamps(net) if (lamp in one) != (lamp in other)]
    if unlike:
        return ("stuck", unlike[0])
    parting = parting_pieces(net, one, other)
    return _paper(net, parting[0], one, other) if parting else None


def _paper(net, piece, one, other):
    """Return a paper that a piece parts two settings, in which the same stuck lamps are lit."""
    word = parted_by(net, piece, one, other)
    if word != "marks":
        return (word, piece)
    points = even_points(net, piece, one)
    return (word, piece, points, heights(net, piece, points, one))


def is_why_apart(net, one, other, value):
    """Return whether any object is a paper that two settings are not joined."""
    need_settings(net, one, other)
    if not (isinstance(value, tuple) and len(value) in (2, 4)):
        return False
    if len(value) == 2 and value[0] == "stuck":
        return is_lamp(net, value[1]) and not is_free(net, value[1]) and (value[1] in one) != (value[1] in other)
    if not (alike_in_stuck(net, one, other) and is_piece(net, value[1])):
        return False
    if len(value) == 2:
        return _part_by_word(net, value[0], value[1], one, other)
    return value[0] == "marks" and _part_by_marks(net, value[1], value[2], value[3], one, other)


def _part_by_word(net, word, piece, one, other):
    """Tell whether a piece is still in one of two settings at least and differs, or has unlike signs, as told."""
    if word == "still":
        masks, turned, lit = near_masks(net, piece), turn_bits(net, piece, one), bits_of(piece, one)
        wished = bits_of(piece, other)
        return lit != wished and (is_still(masks, turned, lit) or is_still(masks, turned, wished))
    return word == "sign" and sign(net, piece, one) != sign(net, piece, other)


def _part_by_marks(net, piece, points, levels, one, other):
    """Tell whether any objects are points of a piece and heights of theirs that mark unlike numbers of points."""
    if not (are_points(net, piece, points) and are_heights(net, piece, points, one, levels)):
        return False
    marks = marked_by(net, piece, points, one, levels)
    return len(marks) != len(marked_by(net, piece, points, other, levels))


def nearest_joined(net, one, other):
    """Return any setting joined with the one in which as few lamps as can be are lit unlike the other."""
    need_settings(net, one, other)
    nearest = list(one)
    for piece in pieces(net):
        walk = Walk(near_masks(net, piece), turn_bits(net, piece, one), bits_of(piece, one))
        wished = bits_of(piece, other)
        found = shortest_roads(walk, list(range(len(piece))))
        best = sorted([(len(places_of(lit ^ wished)), lit) for lit in found])[0][1]
        nearest = with_piece_lit(nearest, piece, lamps_of(piece, best))
    return nearest


def is_nearest_joined(net, one, other, value):
    """Return whether any object is a setting joined with the one, as near to the other as can be."""
    least = least_unlike(net, one, other)
    return is_setting(net, value) and joined(net, one, value) and len(setting_shifted(net, value, other)) == least


def least_unlike(net, one, other):
    """Return how few lamps are lit unlike the other in a setting joined with the one."""
    return len(setting_shifted(net, nearest_joined(net, one, other), other))


def joined_with(net, one, other, lamp):
    """Return whether the settings are joined that come if a stuck lamp is switched in both."""
    need_settings(net, one, other)
    need_stuck_lamp(net, lamp)
    return joined(net, setting_shifted(net, one, [lamp]), setting_shifted(net, other, [lamp]))


def helping_lamps(net, one, other):
    """Return the ascending list of the stuck lamps that, switched in both settings, make them joined."""
    need_settings(net, one, other)
    return [lamp for lamp in stuck_lamps(net) if joined_with(net, one, other, lamp)]
