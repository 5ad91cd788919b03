"""Roads between two settings of a piece, told by places."""

from oddlamps.bits import places_of
from oddlamps.coring import left_lot
from oddlamps.coreway import core_way
from oddlamps.grounds import ground_of
from oddlamps.markway import mark_way
from oddlamps.parting import what_parts


def way_within(masks, turned, lit, wished):
    """Return a road from lit lamps to wished ones, None if there is none."""
    if lit == wished:
        return []
    if what_parts(masks, turned, lit, wished) is not None:
        return None
    ground = ground_of(masks, turned)
    if ground is not None:
        return mark_way(masks, ground, turned, lit, wished)
    core = places_of(left_lot(masks, list(range(len(masks)))))
    return core_way(masks, core, turned, lit, wished)
