"""What several tests use: small nets, searches of their own, and copies that tell True from 1."""

import itertools
import random

from oddlamps.errors import LampError
from oddlamps.nets import Net

LETTERS = "abcdefghijklmnopqrstuvwxyz"


def frozen(value):
    """Return any object as tuples that are equal only for objects of the same kinds and orders."""
    if isinstance(value, Net):
        return ("net", frozen(value.lamps()), frozen(value.ties()), frozen(value.wishes()))
    if isinstance(value, LampError):
        return (type(value).__name__, id(value))
    if isinstance(value, dict):
        return ("dict", tuple((frozen(key), frozen(value[key])) for key in value))
    if isinstance(value, (list, tuple)):
        return (type(value).__name__, tuple(frozen(item) for item in value))
    return (type(value).__name__, value)


def thawed(value):
    """Return an equal object with new lists and dictionaries in it."""
    if isinstance(value, dict):
        return {key: thawed(value[key]) for key in value}
    if isinstance(value, list):
        return [thawed(item) for item in value]
    if isinstance(value, tuple):
        return tuple(thawed(item) for item in value)
    return value


def spoil(value):
    """Change all lists and dictionaries in an object."""
    if isinstance(value, (list, tuple, dict)):
        for item in list(value.values()) if isinstance(value, dict) else list(value):
            spoil(item)
    if isinstance(value, list):
        value.reverse()
        value.append("spoiled")
    if isinstance(value, dict):
        value.clear()
        value["spoiled"] = None


def turned_about(value):
    """Return an equal object in which the keys of all dictionaries stand the other way about."""
    if isinstance(value, dict):
        return {key: turned_about(value[key]) for key in reversed(list(value))}
    if isinstance(value, list):
        return [turned_about(item) for item in value]
    if isinstance(value, tuple):
        return tuple(turned_about(item) for item in value)
    return value


def run_examples(case, text):
    """Carry out a block of examples and compare what each line gives with the answer behind it."""
    names, answers = {}, 0
    lines = text.strip().split("\n")
    for line, below in zip(lines, lines[1:] + [""]):
        if line.startswith("# "):
            continue
        if below.startswith("# "):
            case.assertEqual(frozen(eval(line, names)), frozen(eval(below[2:], names)), line)
            answers += 1
        else:
            exec(line, names)
    return answers


def own_near(ties, lamp):
    """Return the ascending list of the neighbours by a list of ties."""
    return sorted([other for tie in ties if lamp in tie for other in tie if other != lamp])


def own_pieces(lamps, ties):
    """Return the lots into which lamps fall by the ties of two of them, melted together tie by tie."""
    lots = {lamp: [lamp] for lamp in lamps}
    for one, other in ties:
        if one in lots and other in lots and lots[one] is not lots[other]:
            joint = lots[one] + lots[other]
            for lamp in joint:
                lots[lamp] = joint
    return sorted({tuple(sorted(lot)) for lot in lots.values()})


def own_ready(wishes, ties, setting, lamp):
    """Tell whether a lamp is ready, by counting."""
    many = len([other for other in own_near(ties, lamp) if other in setting])
    return wishes[lamp] == "odd" and many % 2 == 1 or wishes[lamp] == "even" and many % 2 == 0


def all_lots(things):
    """Return all ascending lists of some of ascending things."""
    return [list(lot) for many in range(len(things) + 1) for lot in itertools.combinations(things, many)]


def all_graphs(many):
    """Return the lists of ties of all graphs of so many lamps, a, b, .."""
    return all_lots(list(itertools.combinations(LETTERS[:many], 2)))


def hanging_graphs(many):
    """Return those of all graphs in which each lamp leads to each other one."""
    return [ties for ties in all_graphs(many) if len(own_pieces(LETTERS[:many], ties)) == 1]


def hanging_shapes(many):
    """Return one of each lot of hanging graphs that differ in the names of the lamps alone."""
    lamps, seen, shapes = LETTERS[:many], set(), []
    orders = [dict(zip(lamps, order)) for order in itertools.permutations(lamps)]
    for ties in hanging_graphs(many):
        if frozenset(ties) not in seen:
            shapes.append(ties)
            for sent in orders:
                seen.add(frozenset(tuple(sorted([sent[one], sent[other]])) for one, other in ties))
    return shapes


def odd_net(many, ties):
    """Return the net of so many lamps with the wish odd."""
    return Net(list(LETTERS[:many]), list(ties), {lamp: "odd" for lamp in LETTERS[:many]})


def random_net(seed, many=8, share=0.3, stuck=0.3):
    """Return a net of lamps a, b, .., the same for the same seed."""
    dice = random.Random(seed)
    lamps = list(LETTERS[:many])
    ties = [tie for tie in itertools.combinations(lamps, 2) if dice.random() < share]
    wishes = {lamp: "stuck" if dice.random() < stuck else dice.choice(["odd", "even"]) for lamp in lamps}
    return Net(lamps, ties, wishes)


def random_walk(net, setting, many, dice):
    """Return a road of at most so many lamps that are chosen at random, and the setting behind it."""
    wishes, ties, road, now = net.wishes(), net.ties(), [], list(setting)
    for _ in range(many):
        ready = [lamp for lamp in net.lamps() if own_ready(wishes, ties, now, lamp)]
        if not ready:
            break
        lamp = dice.choice(ready)
        road.append(lamp)
        now = sorted(set(now) ^ {lamp})
    return road, now


def own_ties(lamps, tuples):
    """Return the ties of lamps whose tuples share just one count."""
    joined = list(zip(lamps, tuples))
    return [(one, other) for (one, a), (other, b) in itertools.combinations(joined, 2) if len(set(a) & set(b)) == 1]


def own_in_order(tuples):
    """Return the least list of tuples among those of ALL ways to call the counts."""
    many = 1 + max(max(pair) for pair in tuples)
    return min([tuple(sorted([called[a], called[b]])) for a, b in tuples]
               for called in itertools.permutations(range(many)))


def growing_tuples(many):
    """Return all lists of so many tuples in which each count comes up behind all lesser ones."""
    found = [([], 0)]
    for _ in range(many):
        found = [(tuples + [pair], max(top, pair[1] + 1)) for tuples, top in found
                 for pair in itertools.combinations(range(top + 2), 2)
                 if not (pair[1] == top + 1 and pair[0] != top)]
    return [tuples for tuples, _ in found]
