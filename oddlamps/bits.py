"""Lots of lamps as the bits of a number: a lamp's bit is its place in a list."""


def near_masks(net, lamps):
    """Return for each lamp of an ascending list, in its order, its neighbours among them as bits."""
    bits = {lamp: 1 << place for place, lamp in enumerate(lamps)}
    return [sum([bits[near] for near in net.near[lamp] if near in bits]) for lamp in lamps]


def mask_of(places):
    """Return unlike places as bits."""
    return sum([1 << place for place in places])


def places_of(bits):
    """Return the ascending list of the places whose bits are set."""
    return [place for place in range(bits.bit_length()) if bits >> place & 1]


def bits_of(lamps, chosen):
    """Return those lamps of a list that are in another list, too, as bits."""
    return mask_of([place for place, lamp in enumerate(lamps) if lamp in chosen])


def lamps_of(lamps, bits):
    """Return the list of those lamps of a list whose bits are set, in its order."""
    return [lamps[place] for place in places_of(bits)]


def is_odd(bits):
    """Tell whether an odd number of bits is set."""
    return len(places_of(bits)) & 1 == 1


def sum_at(masks, bits):
    """Return the sum of those masks whose bits are set: the lamps that are in an odd number of them."""
    total = 0
    for place in places_of(bits):
        total ^= masks[place]
    return total


def are_tied_up(masks, lot):
    """Tell whether lamps of a lot, told as bits, not empty, hang together by their own ties."""
    reached = lot & -lot
    edge = reached
    while edge:
        near = 0
        for place in places_of(edge):
            near |= masks[place]
        edge = near & (lot ^ reached)
        reached |= edge
    return reached == lot


def masks_within(masks, places):
    """Return the masks of lamps at some places, among themselves alone, with their places in this list as bits."""
    return [mask_of([at for at, other in enumerate(places) if masks[place] >> other & 1]) for place in places]
