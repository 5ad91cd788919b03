"""Sums of lots of lamps, told as bits: which lots sum to nothing, which sum to a wanted one.

Images are a list of lots, one for each place; the image of a lot is the sum of the images at its places.
Pivots are a dictionary by their highest bits of images that are not empty, each beside a lot that has it.
"""

from oddlamps.bits import is_odd, sum_at


def _reduced(pivots, image, lot):
    """Return what is left of an image, and of its lot, when pivots are taken off its highest bits, one by one."""
    while image.bit_length() in pivots:
        other, others = pivots[image.bit_length()]
        image ^= other
        lot ^= others
    return image, lot


def _sorted_out(images):
    """Return pivots that make all images, and lots without an image that make all such lots, each in one way."""
    pivots = {}
    empty = []
    for place, image in enumerate(images):
        left, lot = _reduced(pivots, image, 1 << place)
        if left:
            pivots[left.bit_length()] = (left, lot)
        else:
            empty.append(lot)
    return pivots, empty


def lots_without_image(images):
    """Return lots with the empty image such that each such lot is the sum of just one choice of them."""
    return _sorted_out(images)[1]


def lot_with_image(images, wanted):
    """Return a lot with a wanted image, None if there is none."""
    left, lot = _reduced(_sorted_out(images)[0], wanted, 0)
    return None if left else lot


def are_independent(lots):
    """Tell whether no choice of lots, but that of none, sums to nothing."""
    return not lots_without_image(lots)


def meet(masks, one, other):
    """Tell whether two lots meet oddly."""
    return is_odd(sum_at(masks, one) & other)


def meeting_pairs(masks):
    """Return pairs of lots, as many as can be, that meet oddly, but no lots of other pairs."""
    left = [1 << place for place in range(len(masks))]
    pairs = []
    while left:
        one = left.pop()
        partners = [lot for lot in left if meet(masks, one, lot)]
        if partners:
            other = partners[0]
            pairs.append((one, other))
            left = [_beside(masks, lot, one, other) for lot in left if lot != other]
    return pairs


def _beside(masks, lot, one, other):
    """Return a lot, with each of two that meet oddly added if need be, such that it meets neither oddly."""
    added = (other if meet(masks, lot, one) else 0) ^ (one if meet(masks, lot, other) else 0)
    return lot ^ added
