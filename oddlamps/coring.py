"""Cores, searched for by places: six lamps that hang together and cannot be given points."""

from oddlamps.bits import are_tied_up, mask_of, masks_within, places_of
from oddlamps.pairing import any_pairing

CORE_LAMPS = 6


def has_points(masks, lot):
    """Tell whether lamps of a lot that hang together, told as bits, could be given points by themselves."""
    return any_pairing(masks_within(masks, places_of(lot))) is not None


def is_core_lot(masks, lot):
    """Tell whether the lamps of a lot, told as bits, are a core."""
    return len(places_of(lot)) == CORE_LAMPS and are_tied_up(masks, lot) and not has_points(masks, lot)


def left_lot(masks, order):
    """Return as bits the lamps that stay if each one, as its turn comes, is left out where it can be.

    A lamp is needed where the rest without it has points: what is left of that rest later has points, too.
    """
    stay = mask_of(order)
    if has_points(masks, stay):
        return stay
    needed = 0
    before = 0
    while before != stay:
        before = stay
        in_turn = [place for place in order if (stay ^ needed) >> place & 1]
        for place in in_turn:
            rest = stay ^ (1 << place)
            if are_tied_up(masks, rest):
                if has_points(masks, rest):
                    needed |= 1 << place
                else:
                    stay = rest
    return stay
