"""What can be seen in the settings of a class: which lamps lit or dark together, which weights, how many lit ones."""

from oddlamps.bits import bits_of, lamps_of, places_of
from oddlamps.errors import InvalidShow, InvalidWeights
from oddlamps.joining import joined
from oddlamps.kinds import is_count, is_whole
from oddlamps.nets import free_lamps, is_free, is_piece, need_net, need_rising_lamps, pieces, stuck_lamps
from oddlamps.outlook import least_and_most_marks, outlook_in
from oddlamps.points import are_points, pairing_of
from oddlamps.roads import roads_in
from oddlamps.settings import is_setting, need_setting, with_piece_lit
from oddlamps.tempers import are_heights, marked_by


def is_show(net, value):
    """Return whether any object is a show of a net."""
    need_net(net)
    if not (isinstance(value, tuple) and len(value) == 2 and all([is_setting(net, lamps) for lamps in value])):
        return False
    return not any([lamp in value[1] for lamp in value[0]])


def _need_show(net, setting, show):
    """Raise an error unless these are a setting and a show of a net."""
    need_setting(net, setting)
    if not is_show(net, show):
        raise InvalidShow(show)


def _unlike_lamps(setting, show):
    """Return the ascending list of the lamps that are otherwise in a setting than in a show."""
    lit, dark = show
    return sorted([lamp for lamp in lit if lamp not in setting] + [lamp for lamp in dark if lamp in setting])


def _told_lots(piece, show):
    """Return the lamps of a piece that a show tells, and those of them that it lights, as bits."""
    lit, dark = show
    return bits_of(piece, lit + dark), bits_of(piece, lit)


def _barred_stuck(net, setting, show):
    """Return the list of the stuck lamps that are otherwise in a setting than in a show."""
    return [lamp for lamp in _unlike_lamps(setting, show) if not is_free(net, lamp)]


def is_so(net, setting, show):
    """Return whether a setting is so."""
    _need_show(net, setting, show)
    return not _unlike_lamps(setting, show)


def _many_in(net, piece, setting, show):
    """Return how many settings of a piece's class are so."""
    told, wanted = _told_lots(piece, show)
    return outlook_in(net, piece, setting).many_so(told, wanted)


def can_show(net, setting, show):
    """Return whether some setting of the class is so."""
    return many_shown(net, setting, show) > 0


def shown(net, setting, show):
    """Return any setting of the class that is so, None if there is none."""
    if not can_show(net, setting, show):
        return None
    found = list(setting)
    for piece in pieces(net):
        told, wanted = _told_lots(piece, show)
        lit = outlook_in(net, piece, setting).any_so(told, wanted)
        found = with_piece_lit(found, piece, lamps_of(piece, lit))
    return found


def is_shown(net, setting, show, value):
    """Return whether any object is a setting of the class that is so."""
    _need_show(net, setting, show)
    return is_setting(net, value) and not _unlike_lamps(value, show) and joined(net, setting, value)


def many_shown(net, setting, show):
    """Return how many settings of the class are so."""
    _need_show(net, setting, show)
    if _barred_stuck(net, setting, show):
        return 0
    many = 1
    for piece in pieces(net):
        many *= _many_in(net, piece, setting, show)
    return many


def why_dark(net, setting, show):
    """Return any paper that bars a show from all settings of the class, None if some is so."""
    _need_show(net, setting, show)
    stuck = _barred_stuck(net, setting, show)
    if stuck:
        return ("stuck", stuck[0])
    barring = [piece for piece in pieces(net) if not _many_in(net, piece, setting, show)]
    return _paper(net, barring[0], setting, show) if barring else None


def _paper(net, piece, setting, show):
    """Return the paper that a piece bars a show."""
    outlook = outlook_in(net, piece, setting)
    if outlook.bound != "marks":
        return (outlook.bound, piece)
    points, levels = dict(zip(piece, outlook.ground.pairing)), dict(enumerate(outlook.ground.level))
    least, most = _reach(piece, show, points, levels)
    return ("marks", piece, points, levels, least, most)


def _reach(piece, show, points, levels):
    """Return the least and the greatest number of marks, by points and heights, of settings that are so."""
    told, wanted = _told_lots(piece, show)
    return least_and_most_marks(pairing_of(piece, points), [levels[point] for point in sorted(levels)], told, wanted)


def is_why_dark(net, setting, show, value):
    """Return whether any object is a paper that bars a show from all settings of the class."""
    _need_show(net, setting, show)
    if not (isinstance(value, tuple) and len(value) in (2, 6)):
        return False
    if len(value) == 2 and value[0] == "stuck":
        return value[1] in _barred_stuck(net, setting, show)
    if not is_piece(net, value[1]) or value[0] != outlook_in(net, value[1], setting).bound:
        return False
    if len(value) == 2:
        return value[0] != "marks" and not _many_in(net, value[1], setting, show)
    return value[0] == "marks" and _bar_by_marks(net, setting, show, value[1:])


def _bar_by_marks(net, setting, show, paper):
    """Tell whether a paper tells points of a piece, heights, and a reach of marks that bars a show."""
    piece, points, levels, least, most = paper
    if not (are_points(net, piece, points) and are_heights(net, piece, points, setting, levels)):
        return False
    if not (is_count(least) and is_count(most) and (least, most) == _reach(piece, show, points, levels)):
        return False
    return not least <= len(marked_by(net, piece, points, setting, levels)) <= most


def all_together(net, setting, lamps):
    """Return whether all of some lamps are lit in some setting of the class."""
    need_setting(net, setting)
    need_rising_lamps(net, lamps)
    return can_show(net, setting, (lamps, []))


def most_told(net, setting, show):
    """Return any show of as many lamps as can be, told as in a show, that some setting of the class is."""
    _need_show(net, setting, show)
    barred = _barred_stuck(net, setting, show)
    kept = [lamp for lamp in stuck_lamps(net) if lamp not in barred]
    for piece in pieces(net):
        told, wanted = _told_lots(piece, show)
        kept.extend(lamps_of(piece, outlook_in(net, piece, setting).most_so(told, wanted)))
    lit, dark = show
    return ([lamp for lamp in lit if lamp in kept], [lamp for lamp in dark if lamp in kept])


def is_most_told(net, setting, show, value):
    """Return whether any object is such a show."""
    most = most_told(net, setting, show)
    if not (is_show(net, value) and can_show(net, setting, value)):
        return False
    if not all([lamp in told for lamps, told in zip(value, show) for lamp in lamps]):
        return False
    return len(value[0]) + len(value[1]) == len(most[0]) + len(most[1])


def _need_weights(net, setting, weights):
    """Raise an error unless these are a setting of a net and weights of its free lamps."""
    need_setting(net, setting)
    free = free_lamps(net)
    if not (isinstance(weights, dict) and len(weights) == len(free)
            and all([lamp in weights and is_whole(weights[lamp]) for lamp in free])):
        raise InvalidWeights(weights)


def _weight(weights, lamps):
    """Return what lamps that are lit weigh; stuck ones have no weight."""
    return sum([weights[lamp] for lamp in lamps if lamp in weights])


def least_weight(net, setting, weights):
    """Return the least that a setting of the class weighs."""
    return _weight(weights, lightest(net, setting, weights))


def lightest(net, setting, weights):
    """Return any setting of the class that weighs the least."""
    _need_weights(net, setting, weights)
    found = list(setting)
    for piece in pieces(net):
        lots = [lamps_of(piece, lit) for lit in roads_in(net, piece, setting)]
        found = with_piece_lit(found, piece, min([(_weight(weights, lamps), lamps) for lamps in lots])[1])
    return found


def is_lightest(net, setting, weights, value):
    """Return whether any object is a setting of the class that weighs the least."""
    least = least_weight(net, setting, weights)
    return is_setting(net, value) and _weight(weights, value) == least and joined(net, setting, value)


def lit_numbers(net, setting):
    """Return the ascending list of the numbers of lit lamps that settings of the class have."""
    need_setting(net, setting)
    numbers = [len([lamp for lamp in setting if not is_free(net, lamp)])]
    for piece in pieces(net):
        further = sorted(set([len(places_of(lit)) for lit in roads_in(net, piece, setting)]))
        numbers = sorted(set([number + more for number in numbers for more in further]))
    return numbers
