"""What can be seen of a piece, told by places: how many settings of a class have some lamps lit or dark as told.

A show is told by two lots: the lamps that are told, and those of them that shall be lit; the others are open.
"""

from itertools import combinations
from math import comb

from oddlamps.bits import bits_of, is_odd, mask_of, near_masks, places_of
from oddlamps.grounds import ground_of, marks_by
from oddlamps.parting import is_still
from oddlamps.signs import sign_of, turn_bits
from oddlamps.tallies import sign_numbers, spread, still_numbers


def marks_of_lots(pairing, level, told, wanted):
    """Return for each lot of points that open lamps join how many points it has, and 1 if its marks are odd, else 0.

    Whatever the open lamps are, no more can be said of the marks: any lot of points so odd or even can be marked.
    """
    lots = [1 << point for point in range(len(level))]
    for place, pair in enumerate(pairing):
        if not told >> place & 1:
            ends = mask_of(pair)
            lots = [lot for lot in lots if not lot & ends] + [sum([lot for lot in lots if lot & ends])]
    marked = mask_of(marks_by(pairing, level, wanted))
    return [(len(places_of(lot)), 1 if is_odd(lot & marked) else 0) for lot in lots]


def least_and_most_marks(pairing, level, told, wanted):
    """Return the least and the greatest number of marks of the settings that are as told."""
    lots = marks_of_lots(pairing, level, told, wanted)
    return sum([odd for _, odd in lots]), sum([many - ((many + odd) & 1) for many, odd in lots])


class Outlook:
    """A setting of lamps that hang together, told by places, with what tells its class from other settings.

    bound is "still" where it is still, otherwise "sign", or "marks" where the ground has no odd lamps.
    """

    def __init__(self, masks, turned, lit):
        self.masks = masks
        self.turned = turned
        self.lit = lit
        self.ground = ground_of(masks, turned)
        self.bound = "sign" if self.ground is None or self.ground.odd else "marks"
        if is_still(masks, turned, lit):
            self.bound = "still"

    def many_so(self, told, wanted):
        """Return how many settings of the class are as told."""
        if self.bound == "still":
            return 1 if self.lit & told == wanted else 0
        places = [place for place in range(len(self.masks)) if not told >> place & 1]
        if self.bound == "sign":
            own = sign_of(self.masks, self.turned, self.lit)
            many = sign_numbers(self.masks, self.turned, wanted, places)[own]
            return many - still_numbers(self.masks, self.turned, wanted, places)[own]
        lots = marks_of_lots(self.ground.pairing, self.ground.level, told, wanted)
        numbers = [1]
        for many, odd in lots:
            numbers = spread(numbers, [comb(many, marks) if marks & 1 == odd else 0 for marks in range(many + 1)])
        return numbers[len(self.ground.marks(self.lit))] << len(places) - len(self.ground.level) + len(lots)

    def any_so(self, told, wanted):
        """Return the lit lamps of some setting of the class that is as told; there has to be one."""
        for place in range(len(self.masks)):
            if not told >> place & 1:
                told |= 1 << place
                if not self.many_so(told, wanted):
                    wanted |= 1 << place
        return wanted

    def most_so(self, told, wanted):
        """Return as many of the told lamps as some setting of the class has as they are told."""
        places = places_of(told)
        for many in range(len(places)):
            for dropped in combinations(places, many):
                kept = told ^ mask_of(dropped)
                if self.many_so(kept, wanted & kept):
                    return kept
        return 0


def outlook_in(net, piece, setting):
    """Return the outlook of a piece in a setting of its net."""
    return Outlook(near_masks(net, piece), turn_bits(net, piece, setting), bits_of(piece, setting))
