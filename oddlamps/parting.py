"""What parts two settings of a piece, told by places: that it is still, signs, or numbers of marks."""

from oddlamps.bits import sum_at
from oddlamps.grounds import ground_of
from oddlamps.signs import sign_of


def is_still(masks, turned, lit):
    """Tell whether no lamp is ready."""
    return turned == sum_at(masks, lit)


def what_parts(masks, turned, lit, wished):
    """Return "still", "sign" or "marks" for lit lamps that cannot be led to the wished ones, None if they can."""
    if lit == wished:
        return None
    if is_still(masks, turned, lit) or is_still(masks, turned, wished):
        return "still"
    ground = ground_of(masks, turned)
    if ground is None or ground.odd:
        return "sign" if sign_of(masks, turned, lit) != sign_of(masks, turned, wished) else None
    return "marks" if len(ground.marks(lit)) != len(ground.marks(wished)) else None
