"""Texts of nets, of changes and of roads. Each reader takes just the texts that the writer beside it makes."""

from oddlamps.changes import is_change
from oddlamps.errors import InvalidChange, InvalidRoad, InvalidText, LampError
from oddlamps.kinds import are_words
from oddlamps.nets import Net, need_net


def net_text(net):
    """Return the text of a net: a line for each lamp, with its wish and its greater neighbours."""
    need_net(net)
    rows = [[lamp, net.wish[lamp]] + [near for near in net.near[lamp] if near > lamp] for lamp in net.near]
    return "\n".join([" ".join(row) for row in rows])


def _net_of(rows):
    """Return the net that rows of a lamp, its wish and its greater neighbours tell."""
    ties = [(row[0], near) for row in rows for near in row[2:]]
    return Net([row[0] for row in rows], ties, {row[0]: row[1] for row in rows})


def net_in(text):
    """Return the net of which a string is the text, None if there is none."""
    rows = [line.split(" ") for line in text.split("\n")]
    if any([len(row) < 2 for row in rows]):
        return None
    try:
        net = _net_of(rows)
    except LampError:
        return None
    # Lines in another order seem to tell the net, too, but are not its text.
    return net if net_text(net) == text else None


def read_net(text):
    """Return the net of which this is the text."""
    net = net_in(text) if isinstance(text, str) else None
    if net is None:
        raise InvalidText(text)
    return net


def change_text(change):
    """Return the text of a change: its pieces, the lamps of a list one by one."""
    if not is_change(change):
        raise InvalidChange(change)
    near = change[3] if change[0] == "put" else []
    return " ".join(list(change[:3]) + near)


def read_change(text):
    """Return the change of which this is the text."""
    pieces = text.split(" ") if isinstance(text, str) else [""]
    change = tuple(pieces[:3] + [pieces[3:]] if pieces[0] == "put" else pieces)
    if not is_change(change):
        raise InvalidText(text)
    return change


def road_text(road):
    """Return the text of a list of words."""
    if not are_words(road):
        raise InvalidRoad(road)
    return " ".join(road)


def read_road(text):
    """Return the list of words of which this is the text."""
    if text == "":
        return []
    pieces = text.split(" ") if isinstance(text, str) else [""]
    if not are_words(pieces):
        raise InvalidText(text)
    return pieces
