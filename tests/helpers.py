"""What several tests use: small nets, searches of their own, and copies that tell True from 1."""

import functools
import itertools
import random

from oddlamps.errors import LampError
from oddlamps.hall import Hall
from oddlamps.nets import Net

LETTERS = "abcdefghijklmnopqrstuvwxyz"


def frozen(value):
    """Return any object as tuples that are equal only for objects of the same kinds and orders."""
    if isinstance(value, Net):
        return ("net", frozen(value.lamps()), frozen(value.ties()), frozen(value.wishes()))
    if isinstance(value, LampError):
        return (type(value).__name__, id(value))
    if isinstance(value, Hall):
        there = [(spot, value.net_there(spot), value.setting_there(spot), value.aim_there(spot))
                 for spot in value.spots()]
        return ("hall", frozen(there), frozen(value.log()))
    if isinstance(value, dict):
        return ("dict", tuple((frozen(key), frozen(value[key])) for key in value))
    if isinstance(value, (list, tuple)):
        return (type(value).__name__, tuple(frozen(item) for item in value))
    return (type(value).__name__, value)


def thawed(value):
    """Return an equal object with new lists and dictionaries in it."""
    if isinstance(value, dict):
        return {key: thawed(value[key]) for key in value}
    if isinstance(value, list):
        return [thawed(item) for item in value]
    if isinstance(value, tuple):
        return tuple(thawed(item) for item in value)
    return value


def spoil(value):
    """Change all lists and dictionaries in an object."""
    if isinstance(value, (list, tuple, dict)):
        for item in list(value.values()) if isinstance(value, dict) else list(value):
            spoil(item)
    if isinstance(value, list):
        value.reverse()
        value.append("spoiled")
    if isinstance(value, dict):
        value.clear()
        value["spoiled"] = None


def turned_about(value):
    """Return an equal object in which the keys of all dictionaries stand the other way about."""
    if isinstance(value, dict):
        return {key: turned_about(value[key]) for key in reversed(list(value))}
    if isinstance(value, list):
        return [turned_about(item) for item in value]
    if isinstance(value, tuple):
        return tuple(turned_about(item) for item in value)
    return value


def run_examples(case, text):
    """Carry out a block of examples and compare what each line gives with the answer behind it."""
    names, answers = {}, 0
    lines = text.strip().split("\n")
    for line, below in zip(lines, lines[1:] + [""]):
        if line.startswith("# "):
            continue
        if below.startswith("# "):
            case.assertEqual(frozen(eval(line, names)), frozen(eval(below[2:], names)), line)
            answers += 1
        else:
            exec(line, names)
    return answers


def own_near(ties, lamp):
    """Return the ascending list of the neighbours by a list of ties."""
    return sorted([other for tie in ties if lamp in tie for other in tie if other != lamp])


def own_pieces(lamps, ties):
    """Return the lots into which lamps fall by the ties of two of them, melted together tie by tie."""
    lots = {lamp: [lamp] for lamp in lamps}
    for one, other in ties:
        if one in lots and other in lots and lots[one] is not lots[other]:
            joint = lots[one] + lots[other]
            for lamp in joint:
                lots[lamp] = joint
    return sorted({tuple(sorted(lot)) for lot in lots.values()})


def own_ready(wishes, ties, setting, lamp):
    """Tell whether a lamp is ready, by counting."""
    many = len([other for other in own_near(ties, lamp) if other in setting])
    return wishes[lamp] == "odd" and many % 2 == 1 or wishes[lamp] == "even" and many % 2 == 0


def all_lots(things):
    """Return all ascending lists of some of ascending things."""
    return [list(lot) for many in range(len(things) + 1) for lot in itertools.combinations(things, many)]


def all_graphs(many):
    """Return the lists of ties of all graphs of so many lamps, a, b, .."""
    return all_lots(list(itertools.combinations(LETTERS[:many], 2)))


def hanging_graphs(many):
    """Return those of all graphs in which each lamp leads to each other one."""
    return [ties for ties in all_graphs(many) if len(own_pieces(LETTERS[:many], ties)) == 1]


@functools.lru_cache(maxsize=None)
def hanging_shapes(many):
    """Return one of each lot of hanging graphs that differ in the names of the lamps alone."""
    lamps, seen, shapes = LETTERS[:many], set(), []
    orders = [dict(zip(lamps, order)) for order in itertools.permutations(lamps)]
    for ties in hanging_graphs(many):
        if frozenset(ties) not in seen:
            shapes.append(ties)
            for sent in orders:
                seen.add(frozenset(tuple(sorted([sent[one], sent[other]])) for one, other in ties))
    return shapes


def odd_net(many, ties):
    """Return the net of so many lamps with the wish odd."""
    return Net(list(LETTERS[:many]), list(ties), {lamp: "odd" for lamp in LETTERS[:many]})


def random_net(seed, many=8, share=0.3, stuck=0.3):
    """Return a net of lamps a, b, .., the same for the same seed."""
    dice = random.Random(seed)
    lamps = list(LETTERS[:many])
    ties = [tie for tie in itertools.combinations(lamps, 2) if dice.random() < share]
    wishes = {lamp: "stuck" if dice.random() < stuck else dice.choice(["odd", "even"]) for lamp in lamps}
    return Net(lamps, ties, wishes)


def random_walk(net, setting, many, dice):
    """Return a road of at most so many lamps that are chosen at random, and the setting behind it."""
    wishes, road, now = net.wishes(), [], set(setting)
    near = {lamp: set(own_near(net.ties(), lamp)) for lamp in wishes}
    for _ in range(many):
        ready = [lamp for lamp in wishes if wishes[lamp] == ("odd" if len(near[lamp] & now) % 2 else "even")]
        if not ready:
            break
        lamp = dice.choice(ready)
        road.append(lamp)
        now ^= {lamp}
    return road, sorted(now)


def own_ties(lamps, tuples):
    """Return the ties of lamps whose tuples share just one count."""
    joined = list(zip(lamps, tuples))
    return [(one, other) for (one, a), (other, b) in itertools.combinations(joined, 2) if len(set(a) & set(b)) == 1]


def own_in_order(tuples):
    """Return the least list of tuples among those of ALL ways to call the counts."""
    many = 1 + max(max(pair) for pair in tuples)
    return min([tuple(sorted([called[a], called[b]])) for a, b in tuples]
               for called in itertools.permutations(range(many)))


def growing_tuples(many):
    """Return all lists of so many tuples in which each count comes up behind all lesser ones."""
    found = [([], 0)]
    for _ in range(many):
        found = [(tuples + [pair], max(top, pair[1] + 1)) for tuples, top in found
                 for pair in itertools.combinations(range(top + 2), 2)
                 if not (pair[1] == top + 1 and pair[0] != top)]
    return [tuples for tuples, _ in found]


def own_sum(one, other):
    """Return the ascending list of what is in just one of two lists."""
    return sorted(set(one) ^ set(other))


def own_sums(lists):
    """Return the sums of ALL lots of some lists, ascending, each as often as it comes up."""
    sums = []
    for lot in all_lots(range(len(lists))):
        total = []
        for at in lot:
            total = own_sum(total, lists[at])
        sums.append(total)
    return sorted(sums)


def own_meets(ties, one, other):
    """Tell whether the tuples of neighbours, one of each list, are odd in number."""
    both = set(ties) | {tie[::-1] for tie in ties}
    return len([pair for pair in itertools.product(one, other) if pair in both]) % 2 == 1


def own_free(net):
    """Return the lamps of a net that are not stuck."""
    return [lamp for lamp, wish in net.wishes().items() if wish != "stuck"]


def own_net_pieces(net):
    """Return the ascending list of the pieces of a net."""
    return [list(piece) for piece in own_pieces(own_free(net), net.ties())]


def own_turn(net, setting, lamp):
    """Return the turn of a free lamp, by counting."""
    stuck = [near for near in own_near(net.ties(), lamp) if net.wishes()[near] == "stuck" and near in setting]
    return 1 if net.wishes()[lamp] == ("odd" if len(stuck) % 2 else "even") else 0


def own_sign(net, piece, setting):
    """Return the sign of a piece, by counting lit lamps, ties of two of them, and those with the turn 1."""
    lit = [lamp for lamp in setting if lamp in piece]
    ties = [tie for tie in net.ties() if tie[0] in lit and tie[1] in lit]
    return (len(lit) + len(ties) + sum(own_turn(net, setting, lamp) for lamp in lit)) % 2


def own_has_points(lamps, ties):
    """Tell whether lamps have points, by trying all tuples lamp by lamp."""
    near = {lamp: set(own_near(ties, lamp)) for lamp in lamps}
    order = sorted(lamps, key=lambda lamp: -len(near[lamp]))
    for at in range(1, len(order)):
        order[at:] = sorted(order[at:], key=lambda lamp: -len(near[lamp] & set(order[:at])))
    ways = [[]]
    for at, lamp in enumerate(order):
        further = []
        for way in ways:
            top = max([high for _, high in way], default=-1)
            for pair in itertools.combinations(range(top + 3), 2):
                if pair[1] <= top + 1 or pair == (top + 1, top + 2):
                    if all((len(set(pair) & set(other)) == 1) == (order[place] in near[lamp])
                           for place, other in enumerate(way)):
                        further.append(way + [pair])
        ways = further
    return bool(ways)


def own_reached(net, setting, among=None):
    """Return for all settings to which deeds of some lamps lead the fewest deeds, by walking through ALL of them."""
    wishes, near = net.wishes(), {lamp: set(own_near(net.ties(), lamp)) for lamp in net.lamps()}
    among = own_free(net) if among is None else among
    start = frozenset(setting)
    found, edge = {start: 0}, [start]
    for now in edge:
        for lamp in among:
            if len(near[lamp] & now) % 2 == (1 if wishes[lamp] == "odd" else 0) and now ^ {lamp} not in found:
                found[now ^ {lamp}] = found[now] + 1
                edge.append(now ^ {lamp})
    return {tuple(sorted(now)): many for now, many in found.items()}


def made_net(words, ties, wishes=""):
    """Return a net of lamps with names of one letter, ties like "ab", wishes like "a" for even, "!a" for stuck."""
    told = {lamp: "odd" for lamp in words}
    for word in wishes.split():
        told[word[-1]] = "stuck" if word[0] == "!" else "even"
    return Net(sorted(words), sorted(tuple(sorted(tie)) for tie in ties.split()), told)


COMB = "ab bc cd de cf"
RING = "ab bc cd de ae"
WHEEL = RING + " af bf cf df ef"


def small_nets():
    """Return nets of one and two pieces: paired, twisted, with cores, with stuck lamps."""
    return [
        made_net("ab", "ab"), made_net("a", ""), made_net("a", "", "a"), made_net("abc", "ab", "b"),
        made_net("abcs", "ab bc bs", "!s"), made_net("abcms", "am bm cm bs ms", "b !s"),
        made_net("abcde", "ab ac bc cd", "c"), made_net("abcdest", "ab cd de as cs dt st", "d !s !t"),
        made_net("abcd", "ab bc cd ad", "a"), made_net("abcd", "ab bc cd ad ac bd", "a c"),
        made_net("abcde", RING), made_net("abcde", RING, "a"), made_net("abcdes", RING + " as", "c !s"),
        made_net("abcdef", "ab bc cd de ef"), made_net("abcdef", COMB), made_net("abcdef", WHEEL, "b f"),
        made_net("abcdefs", COMB + " as fs", "d !s")]


def grown_work(net, piece, many, dice):
    """Return a work of so many lamps in its list, if there are any that can be put on or taken off."""
    lamp = dice.choice(piece)
    total, others = [lamp], []
    while len(others) < many:
        further = [other for other in piece if own_meets(net.ties(), [other], total)]
        if not further:
            break
        others.append(dice.choice(further))
        total = own_sum(total, others[-1:])
    return (lamp, others), total
