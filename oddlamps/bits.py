"""Lots of lamps as the bits of a number: a lamp's bit is its place in a list."""


def near_masks(net, lamps):
    """Return for each lamp of an ascending list, in its order, its neighbours among them as bits."""
    bits = {lamp: 1 << place for place, lamp in enumerate(lamps)}
    return [sum([bits[near] for near in net.near[lamp] if near in bits]) for lamp in lamps]


def mask_of(places):
    """Return unlike places as bits."""
    return sum([1 << place for place in places])
