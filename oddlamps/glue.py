"""Nets that are glued together, by a tie or in a lamp of both, and points that show whether their piece is paired."""

from oddlamps.bits import near_masks
from oddlamps.cores import kind_of
from oddlamps.errors import InvalidLamp, Unlike
from oddlamps.families import leaves_of
from oddlamps.grounds import ground_of
from oddlamps.nets import Net, need_free_lamp, need_lamp, need_net, need_piece, piece_of, side_by_side
from oddlamps.points import are_points


def _need_nets(one, other):
    """Raise an error unless these are nets."""
    need_net(one)
    need_net(other)


def tied(one, other, first, second):
    """Return the net of both nets with a tie between a lamp of the one and a lamp of the other."""
    _need_nets(one, other)
    need_lamp(one, first)
    need_lamp(other, second)
    both = side_by_side(one, other)
    return Net(both.lamps(), both.ties() + [tuple(sorted([first, second]))], both.wishes())


def met(one, other, lamp):
    """Return the net of two nets that have just one lamp in common."""
    _need_nets(one, other)
    need_lamp(one, lamp)
    need_lamp(other, lamp)
    if [both for both in one.near if both in other.near] != [lamp] or one.wish[lamp] != other.wish[lamp]:
        raise Unlike(other)
    wishes = one.wishes()
    wishes.update(other.wishes())
    return Net(list(wishes), one.ties() + other.ties(), wishes)


def _need_lamp_of(net, piece, lamp):
    """Raise an error unless this is a lamp of a piece of a net."""
    need_piece(net, piece)
    if lamp not in piece:
        raise InvalidLamp(lamp)


def _others_at(piece, points, lamp):
    """Return for both points of a lamp the list of the other lamps that join it."""
    return [[other for other in piece if other != lamp and point in points[other]] for point in points[lamp]]


def _are_lone(piece, points, lamp):
    """Tell whether no other lamp joins one of a lamp's points."""
    return [] in _others_at(piece, points, lamp)


def _are_leafy(net, piece, points, lamp):
    """Tell whether all others that join one of a lamp's points are leaves tied to this lamp."""
    leaves = [leaf for leaf in leaves_of(net, piece) if leaf in net.near[lamp]]
    return any([all([other in leaves for other in others]) for others in _others_at(piece, points, lamp)])


def _points_for(net, piece, lamp):
    """Return points of a piece by which a lamp has a lone point if there are such, None if it is not paired."""
    # Where lamps lie in lots the one lamp with the turn 1 is given a point that no other lamp joins.
    ground = ground_of(near_masks(net, piece), 1 << piece.index(lamp))
    return None if ground is None else dict(zip(piece, ground.pairing))


def lone_points(net, piece, lamp):
    """Return any points by which a point of a lamp is lone, None if there are none."""
    _need_lamp_of(net, piece, lamp)
    points = _points_for(net, piece, lamp)
    return points if points is not None and _are_lone(piece, points, lamp) else None


def leafy_points(net, piece, lamp):
    """Return any points by which a point of a lamp is leafy, None if there are none."""
    _need_lamp_of(net, piece, lamp)
    points = _points_for(net, piece, lamp)
    return points if points is not None and _are_leafy(net, piece, points, lamp) else None


def are_lone_points(net, piece, lamp, value):
    """Return whether any object is points by which a point of a lamp is lone."""
    _need_lamp_of(net, piece, lamp)
    return are_points(net, piece, value) and _are_lone(piece, value, lamp)


def are_leafy_points(net, piece, lamp, value):
    """Return whether any object is points by which a point of a lamp is leafy."""
    _need_lamp_of(net, piece, lamp)
    return are_points(net, piece, value) and _are_leafy(net, piece, value, lamp)


def tied_kind(one, other, first, second):
    """Return "core" or "paired", whichever the piece is that two pieces become, tied at free lamps."""
    _need_nets(one, other)
    need_free_lamp(one, first)
    need_free_lamp(other, second)
    both = tied(one, other, first, second)
    return kind_of(both, piece_of(both, first))


def met_kind(one, other, lamp):
    """Return "core" or "paired", whichever the piece is that two pieces become, met in a free lamp."""
    _need_nets(one, other)
    need_free_lamp(one, lamp)
    need_free_lamp(other, lamp)
    both = met(one, other, lamp)
    return kind_of(both, piece_of(both, lamp))
