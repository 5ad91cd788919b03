"""Great nets and pieces for tests at the limits, and calls that have to come within a second or so."""

import itertools
import random
import time

from helpers import Net, own_ties

SECONDS = 2
NAMES = ["".join(letters) for letters in itertools.product("abcdefghij", repeat=2)]


def timed(case, function, *arguments):
    """Return what a call returns, which has to come within a second or so."""
    begun = time.perf_counter()
    answer = function(*arguments)
    case.assertLess(time.perf_counter() - begun, SECONDS, function.__name__)
    return answer


def great_tuples(many):
    """Return lists of so many tuples whose points hang together: trees, rings, stars, lots, at random."""
    dice = random.Random(many)
    lists = [[(at, at + 1) for at in range(many)], [(at, at + 1) for at in range(many - 1)] + [(0, many - 1)],
             [(0, at + 1) for at in range(many)], [(dice.randrange(at + 1), at + 1) for at in range(many)]]
    for top in (4, 5, 8, 13, many // 2, many - 3):
        tree = [(dice.randrange(at + 1), at + 1) for at in range(top - 1)]
        lists.append(tree + [tuple(sorted(dice.sample(range(top), 2))) for _ in range(many - len(tree))])
    for tuples in lists:
        dice.shuffle(tuples)
    return lists


def net_of_tuples(tuples, stuck=0):
    """Return a net whose lamps' ties are told by tuples, with stuck lamps tied to many."""
    lamps, more = NAMES[:len(tuples)], ["s" + name for name in NAMES[:stuck]]
    ties = own_ties(lamps, tuples) + [(lamp, other) for lamp in lamps[::2] for other in more]
    wishes = {lamp: ("odd", "even")[at % 2] for at, lamp in enumerate(lamps)}
    return Net(lamps + more, ties, {**wishes, **{lamp: "stuck" for lamp in more}}), lamps


def random_great(seed, many, share, stuck=0):
    """Return a net of free lamps that hang together, and stuck ones tied to many of them."""
    dice = random.Random(seed)
    lamps, more = NAMES[:many], ["s" + name for name in NAMES[:stuck]]
    tree = {tuple(sorted((lamps[dice.randrange(at)], lamps[at]))) for at in range(1, many)}
    ties = tree | {tie for tie in itertools.combinations(lamps, 2) if dice.random() < share}
    ties |= {(lamp, other) for lamp in lamps for other in more if dice.random() < 0.3}
    wishes = {lamp: dice.choice(["odd", "even"]) for lamp in lamps}
    return Net(lamps + more, sorted(ties), {**wishes, **{lamp: "stuck" for lamp in more}}), lamps


def great_pieces():
    """Return pieces of 24 lamps, and of a few more, with a core and paired."""
    made = [random_great(seed, many, share, 40 - many if many < 40 else 0)
            for seed, (many, share) in enumerate(itertools.product((24, 27, 40), (0, 0.1, 0.5, 0.9)))]
    made.extend(net_of_tuples(tuples, 16) for tuples in great_tuples(24))
    made.extend(net_of_tuples(tuples, 13) for tuples in great_tuples(27)[3:6])
    return made
