"""Cores of pieces: six lamps that keep a piece from having points."""

from itertools import combinations

from oddlamps.bits import bits_of, lamps_of, mask_of, near_masks
from oddlamps.coring import is_core_lot, left_lot
from oddlamps.errors import InvalidLamps
from oddlamps.kinds import are_words
from oddlamps.nets import is_list_of, need_piece
from oddlamps.pairing import any_pairing


def is_core(net, piece, value):
    """Return whether any object is a core of a piece."""
    need_piece(net, piece)
    return is_list_of(piece, value) and is_core_lot(near_masks(net, piece), bits_of(piece, value))


def core_of(net, piece):
    """Return any core of a piece, None if there is none."""
    return left_of(net, piece, list(piece)) if kind_of(net, piece) == "core" else None


def kind_of(net, piece):
    """Return "core" or "paired", whichever a piece is."""
    need_piece(net, piece)
    return "core" if any_pairing(near_masks(net, piece)) is None else "paired"


def left_of(net, piece, order):
    """Return the ascending list of the lamps that stay if those that can be left out are, in an order."""
    need_piece(net, piece)
    if not (are_words(order) and sorted(order) == piece):
        raise InvalidLamps(order)
    return lamps_of(piece, left_lot(near_masks(net, piece), [piece.index(lamp) for lamp in order]))


def all_cores(net, piece):
    """Return the ascending list of all cores of a piece."""
    need_piece(net, piece)
    masks = near_masks(net, piece)
    lots = [mask_of(places) for places in combinations(range(len(piece)), 6)]
    return [lamps_of(piece, lot) for lot in lots if is_core_lot(masks, lot)]


def in_all_cores(net, piece):
    """Return the ascending list of the lamps that are in each core of a piece, of none if there is none."""
    cores = all_cores(net, piece)
    return [lamp for lamp in piece if cores and all([lamp in core for core in cores])]
