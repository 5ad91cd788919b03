"""Numbers of settings of lamps that are told by places: how many have which sign, of all of them and of the still ones.

Lamps at some places are open: lit or dark. The others are lit if they are in a lot, in which no open one is.
"""

from oddlamps.bits import mask_of, masks_within, places_of, sum_at
from oddlamps.signs import sign_of
from oddlamps.sums import lot_with_image, lots_without_image, meeting_pairs


def numbers_by_pairs(masks, turned, pairs, idle):
    """Return how many lots have the sign 0 and the sign 1, told by pairs of lots that meet, and by idle lots."""
    many = 1 << len(masks)
    if any([sign_of(masks, turned, lot) for lot in idle]):
        return (many // 2, many // 2)
    odd = [pair for pair in pairs if all([sign_of(masks, turned, lot) for lot in pair])]
    beyond = many >> len(pairs)
    fewer, more = (many - beyond) // 2, (many + beyond) // 2
    return (fewer, more) if len(odd) & 1 else (more, fewer)


def sign_numbers(masks, turned, lit, places):
    """Return how many settings, lamps at some places being open, have the sign 0 and the sign 1."""
    inner = masks_within(masks, places)
    ready = turned ^ sum_at(masks, lit)
    # The lamps that are not open give the open ones turns, as stuck lamps do.
    inner_turned = mask_of([at for at, place in enumerate(places) if ready >> place & 1])
    numbers = numbers_by_pairs(inner, inner_turned, meeting_pairs(inner), lots_without_image(inner))
    return numbers[::-1] if sign_of(masks, turned, lit) else numbers


def still_numbers(masks, turned, lit, places):
    """Return how many still settings, lamps at some places being open, have the sign 0 and the sign 1."""
    images = [masks[place] for place in places]
    first = lot_with_image(images, turned ^ sum_at(masks, lit))
    if first is None:
        return (0, 0)
    idle = lots_without_image(images)
    many = 1 << len(idle)
    inner = masks_within(masks, places)
    # In a still setting an even number of an idle lot's lamps has the turn 1: its sign is the same without turns.
    if any([sign_of(inner, 0, lot) for lot in idle]):
        return (many // 2, many // 2)
    still = lit | mask_of([places[at] for at in places_of(first)])
    return (0, many) if sign_of(masks, turned, still) else (many, 0)


def spread(one, other):
    """Return the numbers of pairs of a thing of the one and a thing of the other, by the sum of their places."""
    numbers = [0] * (len(one) + len(other) - 1)
    for place, many in enumerate(one):
        for further, ways in enumerate(other):
            numbers[place + further] += many * ways
    return numbers
