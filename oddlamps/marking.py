"""Marks on the points of a pairing, the fewest moves that bring them to others, and slopes that bar fewer.

A pairing is the list of the tuples of two points, lamp by lamp; a lamp is told by its place in it.
"""


def distances(pairing):
    """Return for each point the list of how many lamps lead from it to each point."""
    many = 1 + max([high for _, high in pairing])
    return [_distances_from(pairing, point, many) for point in range(many)]


def _distances_from(pairing, start, many):
    """Return how many lamps lead from a point to each one of many that hang together."""
    near = [[] for _ in range(many)]
    for low, high in pairing:
        near[low].append(high)
        near[high].append(low)
    far = {start: 0}
    edge = [start]
    while edge:
        beyond = [(other, far[point] + 1) for point in edge for other in near[point] if other not in far]
        far.update(dict(beyond))
        edge = sorted(set([point for point, _ in beyond]))
    return [far[point] for point in range(many)]


def best_aims(far, marks, wished):
    """Return a dictionary from each mark to an aim of its own such that the sum of the ways is least.

    A mark that is wished stays: no way by it is shorter than the two ways that meet in it.
    """
    aims = {mark: mark for mark in marks if mark in wished}
    goals = [point for point in wished if point not in aims]
    movers = [mark for mark in marks if mark not in aims]
    chosen = {0: (0, [])}
    for mark in movers:
        chosen = _with_next_aim(far[mark], goals, chosen)
    aims.update(dict(zip(movers, chosen[(1 << len(goals)) - 1][1])))
    return aims


def _with_next_aim(ways, goals, chosen):
    """Return for each lot of goals, as bits, the least sum and the aims, from those of one mark less."""
    better = {}
    for lot in chosen:
        cost, aims = chosen[lot]
        for at, goal in enumerate(goals):
            taken = lot | 1 << at
            if taken != lot and (taken not in better or cost + ways[goal] < better[taken][0]):
                better[taken] = (cost + ways[goal], aims + [goal])
    return better


def fewest(far, marks, wished):
    """Return the least number of moves from marks to as many wished ones."""
    aims = best_aims(far, marks, wished)
    return sum([far[mark][aims[mark]] for mark in marks])


def shortest(pairing, marks, wished):
    """Return the places of the lamps of as few moves as can be from marks to as many wished ones."""
    far = distances(pairing)
    aims = best_aims(far, marks, wished)
    road = []
    while True:
        away = [mark for mark in sorted(aims) if aims[mark] not in aims]
        if not away:
            return road
        road.append(_move_towards(pairing, far, aims, away[0]))


def _move_towards(pairing, far, aims, mark):
    """Move one mark on a shortest way to an aim that is unmarked, and return the place of the lamp.

    Marks in the way exchange their aims with the one that comes, which makes no sum greater; so some
    mark always moves. The aims change with it.
    """
    place, beyond = _step(pairing, far, mark, aims[mark])
    while beyond in aims:
        aims[mark], aims[beyond] = aims[beyond], aims[mark]
        mark = beyond
        place, beyond = _step(pairing, far, mark, aims[mark])
    aims[beyond] = aims.pop(mark)
    return place


def _step(pairing, far, mark, aim):
    """Return the first lamp that leads from a point nearer to another one, as its place and the point beyond."""
    steps = [(place, low + high - mark) for place, (low, high) in enumerate(pairing) if mark in (low, high)]
    return [(place, beyond) for place, beyond in steps if far[beyond][aim] < far[mark][aim]][0]


def steepest_slope(pairing, marks, wished):
    """Return the numbers of the points, in order, of a slope whose rise is the least number of moves.

    Each aim shall lie above its mark by its way; that marks have the best aims lets all of this hold at once.
    """
    far = distances(pairing)
    aims = best_aims(far, marks, wished)
    bounds = [(low, high, 1) for low, high in pairing] + [(high, low, 1) for low, high in pairing]
    bounds.extend([(aims[mark], mark, -far[mark][aims[mark]]) for mark in marks])
    slope = [0] * len(far)
    lowered = True
    while lowered:
        lowered = False
        for above, below, by in bounds:
            if slope[below] > slope[above] + by:
                slope[below] = slope[above] + by
                lowered = True
    return slope
