"""Lists of lamps of a piece: their sums, which are idle, which solve a wanted one, still settings, planes."""

from oddlamps.bits import bits_of, is_odd, lamps_of, near_masks, sum_at
from oddlamps.errors import InvalidLamps
from oddlamps.kinds import are_words, is_ascending
from oddlamps.nets import is_list_of, need_list_of, need_piece
from oddlamps.settings import need_setting, with_piece_lit
from oddlamps.signs import turn_bits
from oddlamps.sums import are_independent, lot_with_image, lots_without_image, meet, meeting_pairs


def _need_rising_words(value):
    """Raise InvalidLamps unless this is an ascending list of words."""
    if not (are_words(value) and is_ascending(value)):
        raise InvalidLamps(value)


def sum_of(one, other):
    """Return the ascending list of the lamps that are in just one of two lists."""
    _need_rising_words(one)
    _need_rising_words(other)
    return sorted([lamp for lamp in one if lamp not in other] + [lamp for lamp in other if lamp not in one])


def meets_oddly(net, piece, one, other):
    """Return whether two lists of a piece meet oddly."""
    need_piece(net, piece)
    need_list_of(piece, one)
    need_list_of(piece, other)
    return meet(near_masks(net, piece), bits_of(piece, one), bits_of(piece, other))


def is_idle(net, piece, value):
    """Return whether any object is an idle list of a piece."""
    need_piece(net, piece)
    return is_list_of(piece, value) and sum_at(near_masks(net, piece), bits_of(piece, value)) == 0


def idle_base(net, piece):
    """Return any idle base of a piece."""
    need_piece(net, piece)
    return [lamps_of(piece, lot) for lot in lots_without_image(near_masks(net, piece))]


def is_idle_base(net, piece, value):
    """Return whether any object is an idle base of a piece."""
    base = idle_base(net, piece)
    if not (isinstance(value, list) and len(value) == len(base)):
        return False
    return all([is_idle(net, piece, lot) for lot in value]) and are_independent([bits_of(piece, lot) for lot in value])


def rank(net, piece):
    """Return the number of a piece's lamps less that of an idle base's lists."""
    base = idle_base(net, piece)
    return len(piece) - len(base)


def _need_wanted(net, piece, wanted):
    """Raise an error unless this is a list of a piece of a net."""
    need_piece(net, piece)
    need_list_of(piece, wanted)


def solved(net, piece, wanted):
    """Return any list that solves a wanted one, None if there is none."""
    _need_wanted(net, piece, wanted)
    lot = lot_with_image(near_masks(net, piece), bits_of(piece, wanted))
    return None if lot is None else lamps_of(piece, lot)


def is_solved(net, piece, wanted, value):
    """Return whether any object is a list that solves a wanted one."""
    _need_wanted(net, piece, wanted)
    if not is_list_of(piece, value):
        return False
    return sum_at(near_masks(net, piece), bits_of(piece, value)) == bits_of(piece, wanted)


def why_unsolved(net, piece, wanted):
    """Return any idle list with an odd number of lamps of a wanted list, None if there is none."""
    _need_wanted(net, piece, wanted)
    # Of a sum with an odd number of them one of the lists that are summed has an odd number, too.
    barring = [lot for lot in idle_base(net, piece) if _meets_in_an_odd_number(piece, lot, wanted)]
    return barring[0] if barring else None


def is_why_unsolved(net, piece, wanted, value):
    """Return whether any object is an idle list with an odd number of lamps of a wanted list."""
    _need_wanted(net, piece, wanted)
    return is_idle(net, piece, value) and _meets_in_an_odd_number(piece, value, wanted)


def _meets_in_an_odd_number(piece, one, other):
    """Tell whether two lists of a piece have an odd number of lamps in common."""
    return is_odd(bits_of(piece, one) & bits_of(piece, other))


def still_number(net, piece, setting):
    """Return how many settings of a piece's lamps, the others as they are, are such that it is still."""
    if still_setting(net, piece, setting) is None:
        return 0
    return 1 << len(idle_base(net, piece))


def still_setting(net, piece, setting):
    """Return any such setting of the net, None if there is none."""
    need_piece(net, piece)
    need_setting(net, setting)
    # A piece is still if just the lamps with the turn 1 have an odd number of lit neighbours in it.
    lot = lot_with_image(near_masks(net, piece), turn_bits(net, piece, setting))
    return None if lot is None else with_piece_lit(setting, piece, lamps_of(piece, lot))


def planes(net, piece):
    """Return any planes of a piece."""
    need_piece(net, piece)
    pairs = meeting_pairs(near_masks(net, piece))
    return [(lamps_of(piece, one), lamps_of(piece, other)) for one, other in pairs]


def are_planes(net, piece, value):
    """Return whether any object is planes of a piece."""
    half = rank(net, piece) // 2
    if not (isinstance(value, list) and len(value) == half and all([_is_pair_of_lists(piece, two) for two in value])):
        return False
    masks = near_masks(net, piece)
    pairs = [[bits_of(piece, lot) for lot in two] for two in value]
    for at, (one, other) in enumerate(pairs):
        apart = [lot for pair in pairs[:at] for lot in pair]
        if not meet(masks, one, other) or any([meet(masks, lot, one) or meet(masks, lot, other) for lot in apart]):
            return False
    return True


def _is_pair_of_lists(piece, value):
    """Tell whether any object is a tuple of two lists of a piece."""
    return isinstance(value, tuple) and len(value) == 2 and all([is_list_of(piece, lot) for lot in value])
