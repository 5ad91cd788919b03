"""Settings of a net, the deeds that lead from one to another, and roads of deeds."""

from oddlamps.errors import InvalidLamp, InvalidRoad, InvalidSetting
from oddlamps.kinds import is_ascending
from oddlamps.nets import (
    Net, are_lamps, is_lamp, need_lamp, need_net, need_rising_lamps, pieces, turned_wishes)

# The wish of a lamp that is ready, by the rest that the number of its lit neighbours leaves by two.
READY_WISHES = ("even", "odd")


def need_setting(net, setting):
    """Raise an error unless this is a setting of a net."""
    if not is_setting(net, setting):
        raise InvalidSetting(setting)


def need_road(net, setting, road):
    """Raise an error unless this is a road from a setting of a net."""
    if not is_road(net, setting, road):
        raise InvalidRoad(road)


def is_setting(net, value):
    """Return whether any object is a setting of a net."""
    need_net(net)
    return are_lamps(net, value) and is_ascending(value)


def lit_neighbours(net, setting, lamp):
    """Return the ascending list of a lamp's neighbours that are lit."""
    need_setting(net, setting)
    need_lamp(net, lamp)
    return _lit_near(net, setting, lamp)


def _lit_near(net, lit, lamp):
    """Return the neighbours of a lamp that are in lit, a list or a dictionary."""
    return [near for near in net.near[lamp] if near in lit]


def is_ready_by(net, lit, lamp):
    """Tell whether a lamp is ready by lit, a list or a dictionary; a stuck one has neither wish, so it never is."""
    return net.wish[lamp] == READY_WISHES[len(_lit_near(net, lit, lamp)) & 1]


def is_ready(net, setting, lamp):
    """Return whether a lamp is ready."""
    need_setting(net, setting)
    need_lamp(net, lamp)
    return is_ready_by(net, setting, lamp)


def ready_lamps(net, setting):
    """Return the ascending list of the ready lamps."""
    need_setting(net, setting)
    return [lamp for lamp in net.near if is_ready_by(net, setting, lamp)]


def switched(net, setting, lamp):
    """Return the setting behind the deed of a ready lamp."""
    need_setting(net, setting)
    if not (is_lamp(net, lamp) and is_ready_by(net, setting, lamp)):
        raise InvalidLamp(lamp)
    return _other_ones(setting, [lamp])


def _other_ones(setting, lamps):
    """Return the setting in which lamps of an ascending list are lit if they were not, and the other way about."""
    return sorted([lamp for lamp in setting if lamp not in lamps] + [lamp for lamp in lamps if lamp not in setting])


def still_pieces(net, setting):
    """Return the ascending list of the pieces of which no lamp is ready."""
    need_setting(net, setting)
    return [piece for piece in pieces(net) if not any([is_ready_by(net, setting, lamp) for lamp in piece])]


def _settings_along(net, setting, lamps):
    """Return the settings on the road that lamps make, None where one is not ready as its turn comes."""
    lit = {lamp: True for lamp in setting}
    along = [sorted(lit)]
    for lamp in lamps:
        if not is_ready_by(net, lit, lamp):
            return None
        _switch(lit, lamp)
        along.append(sorted(lit))
    return along


def _switch(lit, lamp):
    """Light a lamp, or put it out, in a dictionary of those that are lit."""
    if lamp in lit:
        del lit[lamp]
    else:
        lit[lamp] = True


def deeds_along(net, setting, lamps):
    """Return the road of those lamps of a list that are ready, and switched, as their turn comes."""
    lit = {lamp: True for lamp in setting}
    road = []
    for lamp in lamps:
        if is_ready_by(net, lit, lamp):
            _switch(lit, lamp)
            road.append(lamp)
    return road


def with_piece_lit(setting, piece, lamps):
    """Return the setting in which just these lamps of a piece are lit, all else as it was."""
    return sorted([lamp for lamp in setting if lamp not in piece] + lamps)


def is_road(net, setting, value):
    """Return whether any object is a road from a setting."""
    need_setting(net, setting)
    return are_lamps(net, value) and _settings_along(net, setting, value) is not None


def led(net, setting, road):
    """Return the setting to which a road leads."""
    return led_along(net, setting, road)[-1]


def led_along(net, setting, road):
    """Return the list of all settings on a road, the first and the last one, too."""
    need_road(net, setting, road)
    return _settings_along(net, setting, road)


def cut_short(net, setting, road):
    """Return what is left of a road if deeds that take back one another are struck."""
    need_road(net, setting, road)
    left = []
    for lamp in road:
        at = _place_taken_back(net, left, lamp)
        if at is None:
            left.append(lamp)
        else:
            del left[at]
    return left


def _place_taken_back(net, left, lamp):
    """Return the place of the deed in a list that the lamp's next deed takes back, None if there is none."""
    for at in reversed(range(len(left))):
        if left[at] == lamp:
            return at
        if left[at] in net.near[lamp]:
            return None
    return None


def shifted(net, lamps):
    """Return the net in which lamps with an odd number of neighbours in a list have the other wish."""
    need_net(net)
    need_rising_lamps(net, lamps)
    return Net(net.lamps(), net.ties(), turned_wishes(net, lamps))


def setting_shifted(net, setting, lamps):
    """Return the setting in which lamps of a list are lit if they were not, and the other way about."""
    need_setting(net, setting)
    need_rising_lamps(net, lamps)
    return _other_ones(setting, lamps)
