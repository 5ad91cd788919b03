"""Nets: lamps, their ties and wishes, and the pieces into which the free ones fall."""

from oddlamps.errors import (
    InvalidLamp, InvalidLamps, InvalidMap, InvalidNet, InvalidPiece, InvalidTies, InvalidWishes, Refused, Unlike)
from oddlamps.kinds import are_unlike, are_words, is_ascending, is_word

WISHES = ("odd", "even", "stuck")
TURNED = {"odd": "even", "even": "odd", "stuck": "stuck"}


class Net:
    """A net of lamps, which never changes.

    near holds for each lamp, ascending, the ascending tuple of its neighbours, wish its wish.
    """

    def __init__(self, lamps, ties, wishes):
        if not (are_words(lamps) and lamps and are_unlike(lamps)):
            raise InvalidLamps(lamps)
        near = {lamp: [] for lamp in sorted(lamps)}
        if not _are_ties(ties, near):
            raise InvalidTies(ties)
        if not _are_wishes(wishes, near):
            raise InvalidWishes(wishes)
        for one, other in ties:
            near[one].append(other)
            near[other].append(one)
        self.near = {lamp: tuple(sorted(near[lamp])) for lamp in near}
        self.wish = {lamp: wishes[lamp] for lamp in near}

    def lamps(self):
        """Return the ascending list of the lamps."""
        return list(self.near)

    def ties(self):
        """Return the ascending list of the ties."""
        return [(lamp, other) for lamp in self.near for other in self.near[lamp] if lamp < other]

    def wishes(self):
        """Return the dictionary from the lamps, ascending, to their wishes."""
        return dict(self.wish)

    def __eq__(self, other):
        return isinstance(other, Net) and self.near == other.near and self.wish == other.wish


def _are_ties(value, near):
    """Tell whether any object is a list of unlike ties of the lamps that are keys of near."""
    return isinstance(value, list) and all([is_tie(near, tie) for tie in value]) and are_unlike(value)


def is_tie(near, value):
    """Tell whether any object is a tuple of two unlike lamps that are keys of near, the lesser first."""
    return (isinstance(value, tuple) and len(value) == 2
            and all([isinstance(lamp, str) and lamp in near for lamp in value])
            and value[0] < value[1])


def _are_wishes(value, near):
    """Tell whether any object is a dictionary from just the keys of near to wishes."""
    return (isinstance(value, dict) and len(value) == len(near)
            and all([lamp in value and value[lamp] in WISHES for lamp in near]))


def is_lamp(net, value):
    """Tell whether any object is a lamp of a net."""
    return isinstance(value, str) and value in net.near


def are_lamps(net, value):
    """Tell whether any object is a list of lamps of a net, in any order, doubles let."""
    return isinstance(value, list) and all([is_lamp(net, lamp) for lamp in value])


def is_free(net, lamp):
    """Tell whether a lamp of a net is free."""
    return net.wish[lamp] != "stuck"


def need_net(net):
    """Raise InvalidNet unless this is a net."""
    if not isinstance(net, Net):
        raise InvalidNet(net)


def need_lamp(net, lamp):
    """Raise an error unless this is a lamp of a net."""
    need_net(net)
    if not is_lamp(net, lamp):
        raise InvalidLamp(lamp)


def need_free_lamp(net, lamp):
    """Raise an error unless this is a free lamp of a net."""
    need_lamp(net, lamp)
    if not is_free(net, lamp):
        raise InvalidLamp(lamp)


def need_stuck_lamp(net, lamp):
    """Raise an error unless this is a stuck lamp of a net."""
    need_lamp(net, lamp)
    if is_free(net, lamp):
        raise InvalidLamp(lamp)


def need_rising_lamps(net, lamps):
    """Raise InvalidLamps unless this is an ascending list of lamps of a net."""
    if not (are_lamps(net, lamps) and is_ascending(lamps)):
        raise InvalidLamps(lamps)


def need_some_lamps(net, lamps):
    """Raise InvalidLamps unless this is a list, not empty, of unlike lamps of a net, in any order."""
    if not (are_lamps(net, lamps) and lamps and are_unlike(lamps)):
        raise InvalidLamps(lamps)


def is_list_of(piece, value):
    """Tell whether any object is a list of a piece: an ascending list of its lamps."""
    return are_words(value) and is_ascending(value) and all([lamp in piece for lamp in value])


def need_list_of(piece, lamps):
    """Raise InvalidLamps unless this is an ascending list of lamps of a piece."""
    if not is_list_of(piece, lamps):
        raise InvalidLamps(lamps)


def need_piece(net, piece):
    """Raise an error unless this is a piece of a net."""
    if not is_piece(net, piece):
        raise InvalidPiece(piece)


def neighbours(net, lamp):
    """Return the ascending list of a lamp's neighbours."""
    need_lamp(net, lamp)
    return list(net.near[lamp])


def free_lamps(net):
    """Return the ascending list of the free lamps."""
    need_net(net)
    return [lamp for lamp in net.near if is_free(net, lamp)]


def stuck_lamps(net):
    """Return the ascending list of the stuck lamps."""
    need_net(net)
    return [lamp for lamp in net.near if not is_free(net, lamp)]


def hang_together(net, lamps):
    """Return whether each of some lamps leads to each other one by ties of two of them."""
    need_net(net)
    need_some_lamps(net, lamps)
    return len(_reached(net, lamps[0], {lamp: True for lamp in lamps})) == len(lamps)


def _reached(net, start, among):
    """Return the ascending list of the lamps to which ties of two keys of among lead from one of these."""
    found = {start: True}
    waiting = [start]
    while waiting:
        lamp = waiting.pop()
        further = [other for other in net.near[lamp] if other in among and other not in found]
        found.update({other: True for other in further})
        waiting.extend(further)
    return sorted(found)


def _piece_with(net, lamp):
    """Return the piece that has a free lamp."""
    return _reached(net, lamp, {free: True for free in free_lamps(net)})


def pieces(net):
    """Return the ascending list of the pieces."""
    found = []
    told = {}
    for lamp in free_lamps(net):
        if lamp not in told:
            piece = _piece_with(net, lamp)
            found.append(piece)
            told.update({other: True for other in piece})
    return found


def piece_of(net, lamp):
    """Return the piece that has a free lamp."""
    need_free_lamp(net, lamp)
    return _piece_with(net, lamp)


def is_piece(net, value):
    """Return whether any object is a piece of a net."""
    need_net(net)
    if not (are_lamps(net, value) and value and is_free(net, value[0])):
        return False
    return value == _piece_with(net, value[0])


def renamed(net, sent):
    """Return the net with its lamps exchanged by a dictionary from them to unlike words."""
    need_net(net)
    if not _is_map(net, sent):
        raise InvalidMap(sent)
    ties = [tuple(sorted([sent[one], sent[other]])) for one, other in net.ties()]
    return Net([sent[lamp] for lamp in net.near], ties, {sent[lamp]: net.wish[lamp] for lamp in net.near})


def _is_map(net, value):
    """Tell whether any object is a dictionary from just the lamps of a net to unlike words."""
    if not (isinstance(value, dict) and len(value) == len(net.near)):
        return False
    if not all([lamp in value and is_word(value[lamp]) for lamp in net.near]):
        return False
    return are_unlike(list(value.values()))


def cut_to(net, lamps):
    """Return the net of some lamps, with the ties of two of them."""
    need_net(net)
    need_some_lamps(net, lamps)
    wishes = {lamp: net.wish[lamp] for lamp in lamps}
    return Net(lamps, [(one, other) for one, other in net.ties() if one in wishes and other in wishes], wishes)


def side_by_side(one, other):
    """Return the net of the lamps, ties and wishes of both nets."""
    need_net(one)
    need_net(other)
    if any([lamp in one.near for lamp in other.near]):
        raise Unlike(other)
    wishes = one.wishes()
    wishes.update(other.wishes())
    return Net(one.lamps() + other.lamps(), one.ties() + other.ties(), wishes)


def turned_wishes(net, lamps):
    """Return the wishes with those turned that belong to lamps with an odd number of neighbours in a list."""
    chosen = {lamp: True for lamp in lamps}
    wishes = net.wishes()
    for lamp in net.near:
        if len([near for near in net.near[lamp] if near in chosen]) & 1:
            wishes[lamp] = TURNED[net.wish[lamp]]
    return wishes


def without_stuck(net, lit):
    """Return the net of the free lamps alone, their wishes turned as stuck lamps that are lit demand it."""
    need_net(net)
    need_rising_lamps(net, lit)
    if any([is_free(net, lamp) for lamp in lit]):
        raise InvalidLamps(lit)
    free = free_lamps(net)
    if not free:
        raise Refused(net)
    wishes = turned_wishes(net, lit)
    rest = cut_to(net, free)
    return Net(free, rest.ties(), {lamp: wishes[lamp] for lamp in free})
