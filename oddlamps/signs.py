"""Turns of free lamps, which hang on stuck lamps alone, and signs of pieces, which no deed changes."""

from oddlamps.bits import bits_of, is_odd, near_masks, places_of
from oddlamps.nets import (
    free_lamps, is_free, need_free_lamp, need_list_of, need_piece, need_stuck_lamp, pieces)
from oddlamps.settings import is_ready_by, need_setting


def _turned(net, setting, lamps):
    """Return those of some free lamps whose turn is 1: they would be ready if all free lamps were dark."""
    lit_stuck = {lamp: True for lamp in setting if not is_free(net, lamp)}
    return [lamp for lamp in lamps if is_ready_by(net, lit_stuck, lamp)]


def turn_bits(net, piece, setting):
    """Return those lamps of a piece whose turn is 1 as bits."""
    return bits_of(piece, _turned(net, setting, piece))


def turn(net, setting, lamp):
    """Return the turn of a free lamp."""
    need_setting(net, setting)
    need_free_lamp(net, lamp)
    return len(_turned(net, setting, [lamp]))


def turns(net, setting):
    """Return the dictionary from the free lamps, ascending, to their turns."""
    need_setting(net, setting)
    turned = _turned(net, setting, free_lamps(net))
    return {lamp: 1 if lamp in turned else 0 for lamp in free_lamps(net)}


def turned_by(net, lamp):
    """Return the ascending list of the free lamps whose turns change when a stuck lamp is lit or goes out."""
    need_stuck_lamp(net, lamp)
    return [near for near in net.near[lamp] if is_free(net, near)]


def sign_of(masks, turned, lit):
    """Return the sign of lamps that are told by places; turned are those with the turn 1, as bits."""
    ties = [masks[place] & lit & (1 << place) - 1 for place in places_of(lit)]
    return sum([is_odd(lot) for lot in [lit, lit & turned] + ties]) & 1


def _sign(net, piece, setting, lit):
    """Return the sign of a piece by the stuck lamps of a setting, and its own lamps that are lit, as bits."""
    return sign_of(near_masks(net, piece), turn_bits(net, piece, setting), lit)


def sign(net, piece, setting):
    """Return the sign of a piece in a setting."""
    need_piece(net, piece)
    need_setting(net, setting)
    return _sign(net, piece, setting, bits_of(piece, setting))


def signs(net, setting):
    """Return the list of the signs of all pieces, in their order."""
    need_setting(net, setting)
    return [sign(net, piece, setting) for piece in pieces(net)]


def sign_with(net, piece, setting, switched):
    """Return the sign of a piece behind all lamps of one of its lists have been lit or put out."""
    need_piece(net, piece)
    need_setting(net, setting)
    need_list_of(piece, switched)
    return _sign(net, piece, setting, bits_of(piece, setting) ^ bits_of(piece, switched))


def alike_stuck(net, one, other):
    """Return whether two settings give all free lamps the same turns."""
    return turns(net, one) == turns(net, other)
