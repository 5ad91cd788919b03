"""Ways between two settings: roads that can be walked, however great the pieces are."""

from oddlamps.bits import bits_of, near_masks
from oddlamps.cores import kind_of
from oddlamps.errors import Unlike
from oddlamps.joining import alike_in_stuck, joined, need_settings
from oddlamps.nets import need_piece, pieces
from oddlamps.pieceways import way_within
from oddlamps.settings import cut_short, is_road, led
from oddlamps.signs import turn_bits


def piece_bound(net, piece):
    """Return how many deeds are enough for any way in a piece."""
    if kind_of(net, piece) == "paired":
        return 3 * len(piece) * len(piece)
    beside = len(piece) - 6
    return beside * beside + 10 * beside + 16


def way_bound(net):
    """Return how many deeds are enough for any way in a net."""
    return sum([piece_bound(net, piece) for piece in pieces(net)])


def _need_alike_settings(net, piece, one, other):
    """Raise an error unless these are a piece and settings of a net in which the same stuck lamps are lit."""
    need_piece(net, piece)
    need_settings(net, one, other)
    if not alike_in_stuck(net, one, other):
        raise Unlike(other)


def piece_way(net, piece, one, other):
    """Return any road by lamps of a piece alone that makes them as they are in the other setting, None without one."""
    _need_alike_settings(net, piece, one, other)
    places = way_within(
        near_masks(net, piece), turn_bits(net, piece, one), bits_of(piece, one), bits_of(piece, other))
    return None if places is None else cut_short(net, one, [piece[place] for place in places])


def is_piece_way(net, piece, one, other, value):
    """Return whether any object is such a road, of no more deeds than are enough."""
    _need_alike_settings(net, piece, one, other)
    if not (is_road(net, one, value) and len(value) <= piece_bound(net, piece)):
        return False
    behind = led(net, one, value)
    return all([lamp in piece for lamp in value]) and bits_of(piece, behind) == bits_of(piece, other)


def way_between(net, one, other):
    """Return any road from one setting to the other, None if they are not joined."""
    if not joined(net, one, other):
        return None
    return [lamp for piece in pieces(net) for lamp in piece_way(net, piece, one, other)]


def is_way(net, one, other, value):
    """Return whether any object is a road from one setting to the other, of no more deeds than are enough."""
    need_settings(net, one, other)
    return is_road(net, one, value) and len(value) <= way_bound(net) and led(net, one, value) == other
