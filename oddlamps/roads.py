"""Roads of few deeds, and the classes of settings that are joined, gone through setting by setting.

No deed in a piece matters to another one: their fewest deeds add up, their settings go with one another freely.
"""

from math import comb

from oddlamps.bits import bits_of, lamps_of, near_masks, places_of, sum_at
from oddlamps.joining import joined, need_settings
from oddlamps.nets import pieces
from oddlamps.settings import is_road, is_setting, led, need_setting, with_piece_lit
from oddlamps.signs import turn_bits
from oddlamps.tallies import spread
from oddlamps.walks import Walk, shortest_roads


def _walk_in(net, piece, setting):
    """Return a walk that stands at the lamps of a piece that are lit in a setting."""
    return Walk(near_masks(net, piece), turn_bits(net, piece, setting), bits_of(piece, setting))


def roads_in(net, piece, setting):
    """Return for all settings of a piece's lamps that a setting can be led to, nearest first, a shortest road."""
    return shortest_roads(_walk_in(net, piece, setting), list(range(len(piece))))


def fewest_deeds(net, one, other):
    """Return the number of deeds of a road as short as can be, None if two settings are not joined."""
    road = shortest_road(net, one, other)
    return None if road is None else len(road)


def shortest_road(net, one, other):
    """Return any road as short as can be from one setting to the other, None if they are not joined."""
    if not joined(net, one, other):
        return None
    roads = [(piece, roads_in(net, piece, one)[bits_of(piece, other)]) for piece in pieces(net)]
    return [piece[place] for piece, road in roads for place in road]


def is_shortest_road(net, one, other, value):
    """Return whether any object is a road as short as can be from one setting to the other."""
    need_settings(net, one, other)
    if not (is_road(net, one, value) and led(net, one, value) == other):
        return False
    return len(value) == fewest_deeds(net, one, other)


def many_shortest(net, one, other):
    """Return how many shortest roads there are, 0 if two settings are not joined."""
    if not joined(net, one, other):
        return 0
    many = 1
    deeds = 0
    for piece in pieces(net):
        more, ways = _deeds_and_ways(net, piece, one, other)
        deeds += more
        # The deeds of a piece may come at any places among those of the others.
        many *= ways * comb(deeds, more)
    return many


def _deeds_and_ways(net, piece, one, other):
    """Return of how many deeds a piece's shortest roads between joined settings are, and how many there are."""
    roads = roads_in(net, piece, one)
    walk = _walk_in(net, piece, one)
    ways = {walk.lit: 1}
    for lit in list(roads)[1:]:
        ways[lit] = sum([ways[lit ^ (1 << place)] for place in _deeds_nearer(walk, roads, lit)])
    wished = bits_of(piece, other)
    return len(roads[wished]), ways[wished]


def _deeds_nearer(walk, roads, lit):
    """Return the places of the lamps by whose deeds a setting comes nearer to that from which roads lead."""
    ready = walk.ready ^ sum_at(walk.masks, walk.lit ^ lit)
    return [place for place in places_of(ready) if len(roads[lit ^ (1 << place)]) < len(roads[lit])]


def first_deeds(net, one, other):
    """Return the ascending list of the lamps with which some shortest road begins."""
    if not joined(net, one, other):
        return []
    first = []
    for piece in pieces(net):
        near = _deeds_nearer(_walk_in(net, piece, other), roads_in(net, piece, other), bits_of(piece, one))
        first.extend([piece[place] for place in near])
    return sorted(first)


def class_of(net, setting):
    """Return the ascending list of the settings that are joined with one, itself, too."""
    need_setting(net, setting)
    found = [list(setting)]
    for piece in pieces(net):
        lots = [lamps_of(piece, lit) for lit in roads_in(net, piece, setting)]
        found = [with_piece_lit(now, piece, lot) for now in found for lot in lots]
    return sorted(found)


def by_deeds(net, setting):
    """Return the list of the numbers of settings to which 0, 1, 2, .. deeds lead and no fewer."""
    need_setting(net, setting)
    numbers = [1]
    for piece in pieces(net):
        deeds = [len(road) for road in roads_in(net, piece, setting).values()]
        numbers = spread(numbers, [deeds.count(many) for many in range(deeds[-1] + 1)])
    return numbers


def farthest(net, setting):
    """Return any setting of the class to which as many deeds as can be are needed."""
    need_setting(net, setting)
    far = list(setting)
    for piece in pieces(net):
        far = with_piece_lit(far, piece, lamps_of(piece, list(roads_in(net, piece, setting))[-1]))
    return far


def is_farthest(net, setting, value):
    """Return whether any object is a setting of the class to which as many deeds as can be are needed."""
    most = len(by_deeds(net, setting)) - 1
    return is_setting(net, value) and fewest_deeds(net, setting, value) == most


def width(net, setting):
    """Return the greatest number of fewest deeds between two settings of the class."""
    need_setting(net, setting)
    return sum([_width_in(net, piece, setting) for piece in pieces(net)])


def _width_in(net, piece, setting):
    """Return the greatest number of fewest deeds between two settings of a piece's class."""
    walk = _walk_in(net, piece, setting)
    widest = 0
    for lit in roads_in(net, piece, setting):
        roads = shortest_roads(Walk(walk.masks, turn_bits(net, piece, setting), lit), list(range(len(piece))))
        widest = max(widest, len(list(roads.values())[-1]))
    return widest
