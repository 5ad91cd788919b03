"""Changes of nets: a lamp, a tie or a wish more or less, and what they change of points and of joined settings."""

from itertools import combinations

from oddlamps.bits import bits_of, near_masks
from oddlamps.cores import kind_of
from oddlamps.errors import Apart, InvalidChange, InvalidChanges, InvalidLamps, Refused
from oddlamps.joining import joined
from oddlamps.kinds import are_words, is_ascending, is_word
from oddlamps.nets import WISHES, Net, cut_to, need_list_of, need_net, need_piece, pieces
from oddlamps.pairing import any_pairing, lots_of
from oddlamps.settings import need_setting

# How many things a change is made of, its word, too.
LENGTHS = {"put": 4, "take": 2, "tie": 3, "untie": 3, "wish": 3}


def is_change(value):
    """Tell whether any object is a change by its form."""
    if not (isinstance(value, tuple) and len(value) >= 2 and isinstance(value[0], str)):
        return False
    word, lamp = value[:2]
    if LENGTHS.get(word) != len(value) or not is_word(lamp):
        return False
    if word in ("tie", "untie"):
        return is_word(value[2]) and lamp < value[2]
    if word == "put" and not (are_words(value[3]) and is_ascending(value[3])):
        return False
    return word == "take" or value[2] in WISHES


def _fits(net, change):
    """Tell whether a change fits a net."""
    word, lamp = change[:2]
    if word == "put":
        return lamp not in net.near and all([near in net.near for near in change[3]])
    if lamp not in net.near:
        return False
    if word == "take":
        return len(net.near) > 1
    if word == "wish":
        return net.wish[lamp] != change[2]
    return change[2] in net.near and (change[2] in net.near[lamp]) == (word == "untie")


def _behind(net, change):
    """Return the net behind a change that fits it."""
    word, lamp = change[:2]
    if word == "take":
        return cut_to(net, [other for other in net.near if other != lamp])
    lamps, ties, wishes = net.lamps(), net.ties(), net.wishes()
    if word == "put":
        lamps.append(lamp)
        ties.extend([tuple(sorted([lamp, near])) for near in change[3]])
    if word in ("put", "wish"):
        wishes[lamp] = change[2]
    if word == "tie":
        ties.append(change[1:])
    if word == "untie":
        ties.remove(change[1:])
    return Net(lamps, ties, wishes)


def changed(net, change):
    """Return the net behind one change."""
    need_net(net)
    if not (is_change(change) and _fits(net, change)):
        raise InvalidChange(change)
    return _behind(net, change)


def _need_forms(net, changes):
    """Raise an error unless these are a net and a list of changes by their form."""
    need_net(net)
    if not (isinstance(changes, list) and all([is_change(change) for change in changes])):
        raise InvalidChanges(changes)


def changed_by(net, changes):
    """Return the net behind some changes."""
    _need_forms(net, changes)
    for change in changes:
        net = changed(net, change)
    return net


def setting_along(net, changes, setting):
    """Return the setting behind some changes: what is put in is dark."""
    changed_by(net, changes)
    need_setting(net, setting)
    taken = [change[1] for change in changes if change[0] == "take"]
    return [lamp for lamp in setting if lamp not in taken]


def _kinds(net):
    """Return the dictionary from the free lamps of a net to the kind of their piece."""
    kinds = {}
    for piece in pieces(net):
        kind = kind_of(net, piece)
        kinds.update({lamp: kind for lamp in piece})
    return kinds


def kinds_changed(net, changes):
    """Return the lamps whose piece is paired ahead of changes alone, and those whose piece is so behind them alone."""
    behind = _kinds(changed_by(net, changes))
    ahead = _kinds(net)
    unlike = [lamp for lamp in sorted(ahead) if behind.get(lamp, ahead[lamp]) != ahead[lamp]]
    return ([lamp for lamp in unlike if ahead[lamp] == "paired"], [lamp for lamp in unlike if ahead[lamp] == "core"])


def keeps_paired(net, piece, lamps):
    """Return whether a piece is paired with a free lamp more, tied to some of its lamps."""
    need_piece(net, piece)
    need_list_of(piece, lamps)
    if not lamps:
        raise InvalidLamps(lamps)
    more = bits_of(piece, lamps)
    masks = [mask | (more >> place & 1) << len(piece) for place, mask in enumerate(near_masks(net, piece))]
    return any_pairing(masks + [more]) is not None


def tie_sets_number(net, piece):
    """Return with how many lists of neighbours a free lamp more keeps a piece paired."""
    need_piece(net, piece)
    masks = near_masks(net, piece)
    if lots_of(masks) is not None:
        return (1 << len(piece)) - 1
    pairing = any_pairing(masks)
    if pairing is None:
        return 0
    many = 1 + max([high for _, high in pairing])
    # The new lamp joins one point and a new one, or two points.
    return many * (many + 1) // 2


def _with_ties(net, ties):
    """Return a net with other ties."""
    return Net(net.lamps(), ties, net.wishes())


def _need_joined(net, one, other):
    """Raise an error unless these are joined settings of a net."""
    if not joined(net, one, other):
        raise Apart(other)


def needed_ties(net, one, other):
    """Return the ascending list of the ties without any one of which two joined settings are not joined."""
    _need_joined(net, one, other)
    ties = net.ties()
    return [tie for tie in ties if not joined(_with_ties(net, [kept for kept in ties if kept != tie]), one, other)]


def linking_ties(net, one, other):
    """Return the ascending list of the tuples of two lamps, any one of which as a tie joins two settings."""
    if joined(net, one, other):
        raise Refused(other)
    lamps, ties = net.lamps(), net.ties()
    further = [tie for tie in combinations(lamps, 2) if tie not in ties]
    return [tie for tie in further if joined(_with_ties(net, ties + [tie]), one, other)]


def _lots_that_fit(net, changes):
    """Return for each lot of a list of changes, fewer positions first, its positions and its changes."""
    lots = []
    for many in range(len(changes) + 1):
        for places in combinations(range(len(changes)), many):
            lot = [changes[place] for place in places]
            if _fit_in_turn(net, lot):
                lots.append((list(places), lot))
    return lots


def _fit_in_turn(net, changes):
    """Tell whether changes fit a net one after the other."""
    for change in changes:
        if not _fits(net, change):
            return False
        net = _behind(net, change)
    return True


def parting_lots(net, changes, one, other):
    """Return the ascending list of the least lots of changes behind which two joined settings are not joined."""
    _need_forms(net, changes)
    _need_joined(net, one, other)
    parting = []
    for places, lot in _lots_that_fit(net, changes):
        if not any([all([place in places for place in fewer]) for fewer in parting]):
            if not joined(changed_by(net, lot), setting_along(net, lot, one), setting_along(net, lot, other)):
                parting.append(places)
    return sorted(parting)
