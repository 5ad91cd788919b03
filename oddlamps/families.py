"""Families of nets: rows, rings, stars, full nets, wheels, combs and ladders; trees with their leaves and forks."""

from oddlamps.bits import mask_of, near_masks, places_of
from oddlamps.errors import InvalidForm, InvalidLamps
from oddlamps.kinds import are_unlike, are_words
from oddlamps.nets import Net, need_piece


def _row_pairs(many):
    """Return the ties of a row of so many lamps, as pairs of rising places; those below do so for other forms."""
    return [(place, place + 1) for place in range(many - 1)]


def _ring_pairs(many):
    return _row_pairs(many) + [(0, many - 1)]


def _star_pairs(many):
    return [(0, place) for place in range(1, many)]


def _full_pairs(many):
    return [(low, high) for high in range(many) for low in range(high)]


def _wheel_pairs(many):
    return _star_pairs(many) + [(low + 1, high + 1) for low, high in _ring_pairs(many - 1)]


def _comb_pairs(many):
    half = many // 2
    return _row_pairs(half) + [(place, place + half) for place in range(half)]


def _ladder_pairs(many):
    half = many // 2
    return _comb_pairs(many) + [(low + half, high + half) for low, high in _row_pairs(half)]


PAIRS = {"row": _row_pairs, "ring": _ring_pairs, "star": _star_pairs, "full": _full_pairs, "wheel": _wheel_pairs,
         "comb": _comb_pairs, "ladder": _ladder_pairs}
FEWEST_LAMPS = {"ring": 3, "wheel": 4}
HALVED = ("comb", "ladder")
# Of more lamps these have a core; the other forms are always paired.
MOST_PAIRED_LAMPS = {"wheel": 5, "comb": 4, "ladder": 4}


def _suits(form, many):
    """Tell whether there is a net of a form of so many lamps; each has one at least."""
    return many >= FEWEST_LAMPS.get(form, 1) and not (form in HALVED and many & 1)


def _pairs_of(form, many):
    """Return the ties of a form of so many lamps, as pairs of rising places."""
    pairs_of_form = PAIRS[form]
    return pairs_of_form(many)


def _net_of(form, lamps, wishes):
    """Return the net of a form made of a list of lamps."""
    if not (are_words(lamps) and are_unlike(lamps) and _suits(form, len(lamps))):
        raise InvalidLamps(lamps)
    ties = [tuple(sorted([lamps[low], lamps[high]])) for low, high in _pairs_of(form, len(lamps))]
    return Net(lamps, ties, wishes)


def row_net(lamps, wishes):
    """Return the net in which each lamp is tied to the next one."""
    return _net_of("row", lamps, wishes)


def ring_net(lamps, wishes):
    """Return the net of a row in which the last lamp is tied to the first one, too."""
    return _net_of("ring", lamps, wishes)


def star_net(lamps, wishes):
    """Return the net in which the first lamp is tied to all others."""
    return _net_of("star", lamps, wishes)


def full_net(lamps, wishes):
    """Return the net in which each two lamps are tied."""
    return _net_of("full", lamps, wishes)


def wheel_net(lamps, wishes):
    """Return the net of a star in which the other lamps make a ring."""
    return _net_of("wheel", lamps, wishes)


def comb_net(lamps, wishes):
    """Return the net in which the first half makes a row, each tied to the lamp at its place of the other half."""
    return _net_of("comb", lamps, wishes)


def ladder_net(lamps, wishes):
    """Return the net of a comb in which the other half makes a row, too."""
    return _net_of("ladder", lamps, wishes)


def _need_form(net, piece, form):
    """Raise an error unless these are a piece of a net and the word of a form."""
    need_piece(net, piece)
    if not (isinstance(form, str) and form in PAIRS):
        raise InvalidForm(form)


def _form_masks(form, many):
    """Return for each place of a form of so many lamps the places that are tied to it, as bits."""
    masks = [0] * many
    for low, high in _pairs_of(form, many):
        masks[low] |= 1 << high
        masks[high] |= 1 << low
    return masks


def _order_from(masks, wanted, order):
    """Return an order of all lamps that begins as told and in which they are tied as is wanted, None without one."""
    at = len(order)
    if at == len(masks):
        return order
    ahead = wanted[at] & (1 << at) - 1
    many = len(places_of(wanted[at]))
    for place in range(len(masks)):
        if place not in order and len(places_of(masks[place])) == many:
            if mask_of([before for before in range(at) if masks[place] >> order[before] & 1]) == ahead:
                found = _order_from(masks, wanted, order + [place])
                if found is not None:
                    return found
    return None


def in_order(net, piece, form):
    """Return any list of a piece's lamps of which a form makes just the ties that it has, None if there is none."""
    _need_form(net, piece, form)
    if not _suits(form, len(piece)):
        return None
    order = _order_from(near_masks(net, piece), _form_masks(form, len(piece)), [])
    return None if order is None else [piece[place] for place in order]


def is_in_order(net, piece, form, value):
    """Return whether any object is such a list."""
    _need_form(net, piece, form)
    if not (_suits(form, len(piece)) and are_words(value) and sorted(value) == piece):
        return False
    return near_masks(net, value) == _form_masks(form, len(piece))


def forms(net, piece):
    """Return the ascending list of the words of the forms of which a piece is."""
    return [form for form in sorted(PAIRS) if in_order(net, piece, form) is not None]


def kind_by_forms(net, piece):
    """Return "core" or "paired", told by the forms of which a piece is, None if there is no form."""
    told = ["core" if len(piece) > MOST_PAIRED_LAMPS.get(form, len(piece)) else "paired" for form in forms(net, piece)]
    return told[0] if told else None


def near_in(net, piece, lamp):
    """Return the ascending list of a lamp's neighbours in its piece."""
    return [near for near in net.near[lamp] if near in piece]


def leaves_of(net, piece):
    """Return the ascending list of the leaves of a piece."""
    return [lamp for lamp in piece if len(near_in(net, piece, lamp)) == 1]


def is_tree(net, piece):
    """Return whether a piece has one tie less than lamps."""
    need_piece(net, piece)
    # Each tie is counted at both of its lamps.
    return sum([len(near_in(net, piece, lamp)) for lamp in piece]) == 2 * (len(piece) - 1)


def fork(net, piece):
    """Return any fork of a piece, None if there is none."""
    need_piece(net, piece)
    leaves = leaves_of(net, piece)
    for lamp in piece:
        near = near_in(net, piece, lamp)
        further = [other for other in near if other not in leaves]
        if len(near) >= 3 and len(further) >= 2:
            one, two = further[:2]
            return (lamp, one, two, [other for other in near if other not in (one, two)][0])
    return None


def is_fork(net, piece, value):
    """Return whether any object is a fork of a piece."""
    need_piece(net, piece)
    if not (isinstance(value, tuple) and len(value) == 4 and are_words(list(value))):
        return False
    lamp, one, two, three = value
    if not (lamp in piece and one < two and three not in (one, two)):
        return False
    near, leaves = near_in(net, piece, lamp), leaves_of(net, piece)
    return all([other in near for other in (one, two, three)]) and one not in leaves and two not in leaves


def shorn(net, piece):
    """Return the ascending list of the lamps that stay if of the leaves at each lamp only the least one stays."""
    need_piece(net, piece)
    leaves = leaves_of(net, piece)
    # Two lamps alone are each the only leaf at the other one.
    least = [[lamp for lamp in near_in(net, piece, middle) if lamp in leaves][:1] for middle in piece]
    kept = [lamp for lamps in least for lamp in lamps]
    return [lamp for lamp in piece if lamp in kept or lamp not in leaves]
