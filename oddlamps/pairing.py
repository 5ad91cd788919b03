"""Points of lamps that hang together, searched for by places.

A lamp is told by its place in a list, its neighbours by masks, numbers with a bit for each place.
A pairing is the list of the tuples of two points, lamp by lamp.
"""

from itertools import combinations

from oddlamps.bits import mask_of


def masks_at(pairing, places):
    """Return for each point, in order, the lamps that join it, as bits; places are those of the tuples."""
    many = 1 + max([high for _, high in pairing])
    masks = [0] * many
    for place, pair in zip(places, pairing):
        for point in pair:
            masks[point] |= 1 << place
    return masks


def is_pairing(masks, pairing):
    """Tell whether just those lamps share one point that are neighbours."""
    at = masks_at(pairing, list(range(len(pairing))))
    return all([at[low] ^ at[high] == mask for mask, (low, high) in zip(masks, pairing)])


def put_pairing_in_order(pairing):
    """Return the least list of tuples that comes of calling the points otherwise.

    A point is called the earlier the earlier its lamps come, one by one; where the lamps of one point
    go on when those of another one end, it comes first, since its name, being less, occurs once more.
    """
    many = 1 + max([high for _, high in pairing])
    lamps_at = [[place for place, pair in enumerate(pairing) if point in pair] for point in range(many)]
    order = sorted([(lamps + [len(pairing)], point) for point, lamps in enumerate(lamps_at)])
    called = {point: name for name, (_, point) in enumerate(order)}
    return [tuple(sorted([called[low], called[high]])) for low, high in pairing]


def lots_of(masks):
    """Return the masks of three lots of lamps at most that are tied exactly across lots, None if there are no such.

    Lamps with the same neighbours are a lot, of which no two are tied; the ends of a row of three would be one.
    """
    lots = sorted(set(masks))
    return lots if len(lots) <= 3 else None


def _is_stiff(masks, four):
    """Tell whether four lamps hang together and have no idle list but the empty one."""
    one, two, three, last = four
    first_halves = [masks[one] >> two & 1, masks[one] >> three & 1, masks[one] >> last & 1]
    second_halves = [masks[three] >> last & 1, masks[two] >> last & 1, masks[two] >> three & 1]
    halvings = sum([first & second for first, second in zip(first_halves, second_halves)])
    # An odd number of ways to tie the four two by two: no idle list. With two ties alone they fall apart.
    return halvings & 1 == 1 and sum(first_halves) + sum(second_halves) > 2


def _start(masks):
    """Return the places of four stiff lamps, the first place alone if there are none: only lamps in lots have none."""
    for four in combinations(range(len(masks)), 4):
        if _is_stiff(masks, four):
            return list(four)
    return [0]


def _hanging_order(masks, start):
    """Return all places, each but the first tied to one ahead; those of a start that hangs together come first."""
    wanted = start + list(range(len(masks)))
    order = [start[0]]
    while len(order) < len(masks):
        ahead = mask_of(order)
        order.append([place for place in wanted if masks[place] & ahead and not ahead >> place & 1][0])
    return order


def _with_one_more(placed, place, mask):
    """Return the ways to put a lamp that is tied to some to the lamps that have points; placed is by place."""
    at = masks_at(list(placed.values()), list(placed))
    wanted = mask & mask_of(list(placed))
    new = len(at)
    pairs = [(low, high) for high in range(new) for low in range(high) if at[low] ^ at[high] == wanted]
    pairs.extend([(low, new) for low in range(new) if at[low] == wanted])
    return [{**placed, place: pair} for pair in pairs]


def all_pairings(masks):
    """Return all ways to give points to lamps that hang together, each in order, ascending.

    Behind the first two lamps each point can be told from each other one, so that no way comes twice.
    Behind four stiff ones no lamp has two places, so that only lamps in lots have several ways.
    """
    order = _hanging_order(masks, _start(masks))
    ways = [{place: (0, 1 + at) for at, place in enumerate(order[:2])}]
    for place in order[2:]:
        ways = [further for placed in ways for further in _with_one_more(placed, place, masks[place])]
    return sorted([put_pairing_in_order([placed[at] for at in range(len(masks))]) for placed in ways])


def any_pairing(masks):
    """Return points in order of lamps that hang together, None if there are none."""
    lots = lots_of(masks)
    if lots is not None:
        return put_pairing_in_order([(0, 1 + lots.index(mask)) for mask in masks])
    ways = all_pairings(masks)
    return ways[0] if ways else None


def many_pairings(masks):
    """Return in how many ways points can be given to lamps that hang together."""
    if lots_of(masks) is not None:
        return 1 << max(0, len(masks) - 2)
    return len(all_pairings(masks))
