"""Works, which switch a whole list of lamps by deeds, and nets in which a lamp and its neighbour are exchanged."""

from oddlamps.bits import bits_of, is_odd, lamps_of, near_masks
from oddlamps.errors import InvalidLamp, InvalidWork
from oddlamps.nets import Net, need_free_lamp, need_piece
from oddlamps.settings import deeds_along, is_ready_by, need_setting, setting_shifted


def _worked_lot(net, piece, value):
    """Return the worked list of a work of a piece as bits, None for any object that is no work."""
    if not (isinstance(value, tuple) and len(value) == 2 and isinstance(value[1], list)):
        return None
    lamp, others = value
    if not all([one in piece for one in [lamp] + others]):
        return None
    places = {one: place for place, one in enumerate(piece)}
    masks = near_masks(net, piece)
    lot = 1 << places[lamp]
    for other in others:
        if not is_odd(masks[places[other]] & lot):
            return None
        lot ^= 1 << places[other]
    return lot


def _need_work(net, piece, work):
    """Raise InvalidWork unless this is a work of a piece."""
    if _worked_lot(net, piece, work) is None:
        raise InvalidWork(work)


def is_work(net, piece, value):
    """Return whether any object is a work of a piece."""
    need_piece(net, piece)
    return _worked_lot(net, piece, value) is not None


def worked_list(net, piece, work):
    """Return the worked list of a work, ascending."""
    need_piece(net, piece)
    _need_work(net, piece, work)
    return lamps_of(piece, _worked_lot(net, piece, work))


def worked(net, piece, setting, work):
    """Return the setting behind a work."""
    need_piece(net, piece)
    need_setting(net, setting)
    lamps = worked_list(net, piece, work)
    # A lamp's lit neighbours and its turn are odd together if it is ready, so these tell whether the work is up.
    ready = bits_of(piece, [lamp for lamp in lamps if is_ready_by(net, setting, lamp)])
    return setting_shifted(net, setting, lamps if is_odd(ready) else [])


def deeds_of(net, piece, setting, work):
    """Return the road of the lamps that are switched if a work is gone through; it leads to the setting behind it."""
    need_piece(net, piece)
    need_setting(net, setting)
    _need_work(net, piece, work)
    lamp, others = work
    return deeds_along(net, setting, others[::-1] + [lamp] + others)


def _need_tied_free(net, lamp, other):
    """Raise an error unless these are free lamps of a net with a tie."""
    need_free_lamp(net, lamp)
    need_free_lamp(net, other)
    if other not in net.near[lamp]:
        raise InvalidLamp(other)


def exchanged(net, lamp, other):
    """Return the net in which a free lamp is told by the sum of itself and of a neighbour."""
    _need_tied_free(net, lamp, other)
    near = [one for one in net.near if one not in (lamp, other)]
    near = [one for one in near if (one in net.near[lamp]) != (one in net.near[other])] + [other]
    ties = [tie for tie in net.ties() if lamp not in tie] + [tuple(sorted([lamp, one])) for one in near]
    wishes = net.wishes()
    wishes[lamp] = "odd" if wishes[lamp] == wishes[other] else "even"
    return Net(net.lamps(), ties, wishes)


def setting_exchanged(net, lamp, other, setting):
    """Return the setting of the exchanged net in which the other lamp is lit if exactly one of both was."""
    _need_tied_free(net, lamp, other)
    need_setting(net, setting)
    return setting_shifted(net, setting, [other] if lamp in setting else [])
