"""Points [43] to [46]: cores, kinds of pieces, and what stays when lamps are left out."""

import itertools
import random
import unittest

from helpers import (
    COMB, WHEEL, hanging_graphs, hanging_shapes, made_net, odd_net, own_has_points, own_meets, own_near,
    own_pieces)
from oddlamps.cores import all_cores, core_of, in_all_cores, is_core, kind_of, left_of
from oddlamps.errors import InvalidLamps
from oddlamps.points import is_paired


def random_pieces():
    """Return pieces of six to eight lamps: trees with further ties, few and many, some of two, three or more lots."""
    dice, made = random.Random(11), []
    for many, share in itertools.product((6, 7, 8), (0, 0, 0, 0.1, 0.2, 0.3, 0.5, 0.7, 0.9)):
        lamps = list("abcdefgh"[:many])
        dice.shuffle(lamps)
        tree = {tuple(sorted((lamps[dice.randrange(at)], lamps[at]))) for at in range(1, many)}
        lamps.sort()
        made.append((lamps, sorted(tree | {tie for tie in itertools.combinations(lamps, 2) if dice.random() < share})))
    for many, lots in ((6, 2), (7, 3), (8, 4), (8, 2)):
        lamps = list("abcdefgh"[:many])
        made.append((lamps, [(a, b) for a, b in itertools.combinations(lamps, 2)
                             if lamps.index(a) % lots != lamps.index(b) % lots]))
    for many in (7, 8):
        for tuples in ([(at, at + 1) for at in range(many)], [(at // 2, at) for at in range(1, many + 1)],
                       [tuple(sorted((at, (at + 1) % many))) for at in range(many)]):
            lamps = list("abcdefgh"[:many])
            made.append((lamps, [(a, b) for (a, one), (b, other) in itertools.combinations(list(zip(lamps, tuples)), 2)
                                 if len(set(one) & set(other)) == 1]))
    return [(lamps, ties) for lamps, ties in made if len(own_pieces(lamps, ties)) == 1]


PIECES = random_pieces()
KNOWN = {}


def own_paired(lamps, ties):
    """Tell whether lamps that hang together have points, by the tests' own search, once for each."""
    inner = tuple(tie for tie in ties if tie[0] in lamps and tie[1] in lamps)
    key = (tuple(lamps), inner)
    if key not in KNOWN:
        KNOWN[key] = own_has_points(list(lamps), list(inner))
    return KNOWN[key]


def own_hang(lamps, ties):
    return len(own_pieces(lamps, ties)) == 1


def own_cores(lamps, ties):
    return [list(six) for six in itertools.combinations(lamps, 6)
            if own_hang(six, ties) and not own_paired(six, ties)]


def own_left(ties, order):
    """Leave lamps out in turn, by the words of [45], step by step."""
    stay, at, kept = list(order), 0, 0
    while kept < len(stay):
        at %= len(stay)
        rest = stay[:at] + stay[at + 1:]
        if rest and own_hang(rest, ties) and not own_paired(sorted(rest), ties):
            stay, kept = rest, 0
        else:
            at, kept = at + 1, kept + 1
    return sorted(stay)


class Cores(unittest.TestCase):
    def test_all_lists_of_six_lamps(self):
        seen = {"core": 0, "paired": 0}
        for lamps, ties in PIECES:
            net, own = odd_net(len(lamps), ties), own_cores(lamps, ties)
            for many in (5, 6, 7):
                for some in itertools.combinations(lamps, many):
                    self.assertIs(is_core(net, lamps, list(some)), list(some) in own)
            self.assertEqual(all_cores(net, lamps), own)
            self.assertEqual(in_all_cores(net, lamps),
                             [lamp for lamp in lamps if own and all(lamp in core for core in own)])
            kind = "paired" if own_paired(lamps, ties) else "core"
            seen[kind] += 1
            self.assertEqual(kind, "core" if own else "paired")
            self.assertEqual(kind_of(net, lamps), kind)
            self.assertIn(core_of(net, lamps), own or [None])
            self.assertIs(is_paired(net, lamps), kind == "paired")
        self.assertTrue(seen["core"] > 10 and seen["paired"] > 5)

    def test_all_shapes_of_six_lamps(self):
        lamps = list("abcdef")
        cores = 0
        for ties in hanging_shapes(6):
            net = odd_net(6, ties)
            lists = [some for many in range(7) for some in itertools.combinations(lamps, many)]
            idle = [some for some in lists if not any(own_meets(ties, [lamp], some) for lamp in lamps)]
            odd = [some for some in lists
                   if (len(some) + len([tie for tie in ties if tie[0] in some and tie[1] in some])) % 2]
            own = not own_has_points(lamps, ties)
            self.assertIs(own, len(idle) == 1 and len(odd) == 36)
            self.assertIs(is_core(net, lamps, lamps), own)
            told = [kind_of(net, lamps), core_of(net, lamps), all_cores(net, lamps), in_all_cores(net, lamps)]
            self.assertEqual(told, ["core", lamps, [lamps], lamps] if own else ["paired", None, [], []])
            cores += own
        self.assertEqual(cores, 32)

    def test_small_pieces_have_none(self):
        for many in (1, 2, 3, 4, 5):
            for ties in hanging_graphs(many) if many < 5 else hanging_shapes(5):
                net, lamps = odd_net(many, ties), list("abcde"[:many])
                self.assertEqual([kind_of(net, lamps), core_of(net, lamps), all_cores(net, lamps),
                                  in_all_cores(net, lamps), left_of(net, lamps, lamps[::-1])],
                                 ["paired", None, [], [], lamps])
                self.assertIs(is_core(net, lamps, lamps), False)

    def test_wishes_and_stuck_lamps_mean_nothing(self):
        for ties, kind in ((COMB, "core"), (WHEEL, "core"), ("ab bc cd de ef", "paired")):
            for wishes in ("", "a b c", "a b c d e f"):
                net = made_net("abcdefstxy", ties + " as bs cs ct xs xy", wishes + " !s !t")
                piece = list("abcdef")
                told = [kind_of(net, piece), core_of(net, piece), all_cores(net, piece), left_of(net, piece, piece)]
                self.assertEqual(told, [kind, piece, [piece], piece] if kind == "core" else [kind, None, [], piece])
                self.assertIs(is_core(net, piece, piece), kind == "core")
                for value in (piece[:5] + ["s"], ["x", "y"], piece[:4] + ["x", "y"], piece[::-1], tuple(piece)):
                    self.assertIs(is_core(net, piece, value), False)


class LeftOut(unittest.TestCase):
    def test_step_by_step_in_several_orders(self):
        dice, unlike = random.Random(12), 0
        for lamps, ties in PIECES:
            net = odd_net(len(lamps), ties)
            results = []
            for order in [lamps, lamps[::-1]] + [dice.sample(lamps, len(lamps)) for _ in range(4)]:
                before = list(order)
                told = left_of(net, lamps, order)
                self.assertEqual(order, before)
                self.assertEqual(told, own_left(ties, order))
                self.assertEqual(told, lamps if own_paired(lamps, ties) else sorted(told))
                if not own_paired(lamps, ties):
                    self.assertEqual([len(told), is_core(net, lamps, told)], [6, True])
                results.append(told)
            unlike += any(told != results[0] for told in results)
        self.assertGreater(unlike, 3)

    def test_nine_lamps_that_are_left_out_one_by_one(self):
        """A long row at a comb: from its near end on nothing can be left out, for the rest would fall apart."""
        lamps = list("abcdefghi")
        ties = [tuple(tie) for tie in "ab bc cd de cf ag gh hi".split()]
        net = odd_net(9, sorted(ties))
        for order in (list("ghiabcdef"), list("ihgfedcba"), list("abcdefghi"), list("higabcdef")):
            told = left_of(net, lamps, order)
            self.assertEqual(told, own_left(ties, order))
            self.assertEqual(own_near([tie for tie in ties if tie[0] in told and tie[1] in told], "c"), ["b", "d", "f"])

    def test_orders_that_are_none(self):
        net, lamps = odd_net(3, [("a", "b"), ("b", "c")]), list("abc")
        for order in (["a", "b"], ["a", "b", "b"], ["a", "b", "c", "a"], ("a", "b", "c"), "abc", ["a", "b", "d"], None,
                      []):
            with self.assertRaises(InvalidLamps) as held:
                left_of(net, lamps, order)
            self.assertIs(held.exception.value, order)

    def test_a_piece_beside_another_one(self):
        net = made_net("abcdefgxy", COMB + " ag xy", "a b c d e f g x y")
        told = [kind_of(net, list("abcdefg")), kind_of(net, ["x", "y"]), left_of(net, ["x", "y"], ["y", "x"])]
        self.assertEqual(told, ["core", "paired", ["x", "y"]])
        self.assertEqual(all_cores(net, list("abcdefg")), [list("abcdef")])


if __name__ == "__main__":
    unittest.main()
