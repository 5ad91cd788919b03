"""Roads in a piece with a core, told by places.

By deeds the six lamps of a core lead one another anywhere that its sign lets, as long as some lamp of it is ready;
so each other lamp can be made alike by itself, from afar to near, and the core by itself at last.
"""

from oddlamps.bits import is_odd, mask_of, places_of, sum_at
from oddlamps.walks import Walk, shortest_roads


def core_way(masks, core, turned, lit, wished):
    """Return a road between settings that are not still and have the same sign; core are the places of one."""
    rows = _rows_to(masks, core)
    ahead = Walk(masks, turned, lit)
    behind = Walk(masks, turned, wished)
    _wake_core(ahead, rows)
    _wake_core(behind, rows)
    for place in list(rows)[::-1]:
        if (ahead.lit ^ behind.lit) >> place & 1 and place not in core:
            _switch_far_lamp(ahead, core, rows[place])
    ahead.go(shortest_roads(ahead, core)[behind.lit])
    return ahead.road + behind.road[::-1]


def _rows_to(masks, core):
    """Return for each lamp, those nearer to a core first, a shortest row of lamps from it on that leads to the core.

    The row of a lamp of the core is empty.
    """
    rows = {place: [] for place in core}
    waiting = list(core)
    while waiting:
        ahead = waiting.pop(0)
        for place in places_of(masks[ahead]):
            if place not in rows:
                rows[place] = [place] + rows[ahead]
                waiting.append(place)
    return rows


def _wake_core(walk, rows):
    """Make some lamp of a core ready: from the nearest ready lamp on each one makes the next of its row ready."""
    nearest = [place for place in rows if walk.ready >> place & 1][0]
    walk.go(rows[nearest])


def _switch_far_lamp(walk, core, row):
    """Switch a lamp, others of its row and some of the core, so that some lamp of the core is ready behind it.

    To go through a row and back switches all of it if an odd number of its lamps is ready, none otherwise.
    """
    roads = shortest_roads(walk, core)
    lot = mask_of(row)
    shift = sum_at(walk.masks, lot)
    for lit in roads:
        ready = walk.ready ^ sum_at(walk.masks, walk.lit ^ lit)
        if is_odd(ready & lot) and (ready ^ shift) & mask_of(core):
            walk.go(roads[lit])
            walk.go_there_and_back(row)
            return
