"""Points [78] to [80]: families of nets, orders of their lamps for ALL small pieces, trees, forks and leaves."""

import itertools
import random
import unittest

from great import NAMES
from helpers import (
    COMB, LETTERS, WHEEL, Net, frozen, hanging_shapes, made_net, odd_net, own_near, own_net_pieces, random_net,
    small_nets)
from oddlamps.cores import is_core, kind_of
from oddlamps.errors import InvalidForm, InvalidLamps, InvalidWishes
from oddlamps.families import (
    comb_net, fork, forms, full_net, in_order, is_fork, is_in_order, is_tree, kind_by_forms, ladder_net, ring_net,
    row_net, shorn, star_net, wheel_net)

MAKERS = {"row": row_net, "ring": ring_net, "star": star_net, "full": full_net, "wheel": wheel_net, "comb": comb_net,
          "ladder": ladder_net}


def own_family(form, lamps):
    """Return the ties of a family as a set of sets, None where the lamps are too few or odd in number for it."""
    many, ties = len(lamps), []
    half = many // 2
    if form == "row":
        ties = list(zip(lamps, lamps[1:]))
    if form == "ring":
        ties = list(zip(lamps, lamps[1:] + lamps[:1])) if many >= 3 else None
    if form == "star":
        ties = [(lamps[0], lamp) for lamp in lamps[1:]]
    if form == "full":
        ties = list(itertools.combinations(lamps, 2))
    if form == "wheel":
        rim = lamps[1:]
        ties = list(zip(rim, rim[1:] + rim[:1])) + [(lamps[0], lamp) for lamp in rim] if many >= 4 else None
    if form in ("comb", "ladder"):
        ties = list(zip(lamps[:half], lamps[1:half])) + list(zip(lamps[:half], lamps[half:]))
        ties += list(zip(lamps[half:], lamps[half + 1:])) if form == "ladder" else []
        ties = None if many % 2 else ties
    return None if ties is None else {frozenset(tie) for tie in ties}


def own_orders(net, piece, form):
    """Return ALL orders of a piece's lamps of which a form makes just its ties."""
    ties = {frozenset(tie) for tie in net.ties() if tie[0] in piece and tie[1] in piece}
    return [list(order) for order in itertools.permutations(piece) if own_family(form, list(order)) == ties]


def own_inner(net, piece, lamp):
    return [near for near in own_near(net.ties(), lamp) if near in piece]


def own_forks(net, piece):
    """Return ALL forks among all tuples of four lamps of the net."""
    leaves = [lamp for lamp in piece if len(own_inner(net, piece, lamp)) == 1]
    return [some for some in itertools.permutations(net.lamps(), 4)
            if some[0] in piece and set(some[1:]) <= set(own_inner(net, piece, some[0])) and some[1] < some[2]
            and some[1] not in leaves and some[2] not in leaves]


class Makers(unittest.TestCase):
    def test_families_of_each_number_of_lamps(self):
        dice = random.Random(1)
        for form, make in MAKERS.items():
            for many in list(range(1, 13)) + [24, 40, 41]:
                lamps = dice.sample(NAMES, many)
                wishes = {lamp: dice.choice(["odd", "even", "stuck"]) for lamp in sorted(lamps)[::-1]}
                ties = own_family(form, lamps)
                if ties is None:
                    self.refuses(make, [lamps, wishes], InvalidLamps, lamps)
                    self.refuses(make, [lamps, None], InvalidLamps, lamps)
                    continue
                net = make(lamps, wishes)
                self.assertEqual([net.lamps(), frozen(net.wishes())],
                                 [sorted(lamps), frozen({lamp: wishes[lamp] for lamp in sorted(lamps)})])
                self.assertEqual(net.ties(), sorted(tuple(sorted(tie)) for tie in ties))

    def refuses(self, function, arguments, error, value):
        with self.assertRaises(error) as held:
            function(*arguments)
        self.assertIs(held.exception.value, value)

    def test_lists_too_short_or_odd(self):
        made = {form: [many for many in range(1, 9) if own_family(form, list(LETTERS[:many])) is not None]
                for form in MAKERS}
        self.assertEqual([made["ring"], made["wheel"], made["comb"], made["ladder"]],
                         [[3, 4, 5, 6, 7, 8], [4, 5, 6, 7, 8], [2, 4, 6, 8], [2, 4, 6, 8]])
        self.assertEqual([made[form] for form in ("row", "star", "full")], [list(range(1, 9))] * 3)
        for make in MAKERS.values():
            for lamps in ([], ["a", "a", "b", "c"], ["a", "b", "c", "A"], ("a", "b", "c", "d"), "abcd", None,
                          ["a", "b", "c", True], {"a": 1}):
                self.refuses(make, [lamps, {"a": "odd"}], InvalidLamps, lamps)
            for wishes in ({}, {lamp: "odd" for lamp in "abc"}, {lamp: "odd" for lamp in "abcde"}, None, ["odd"] * 4,
                           {**{lamp: "odd" for lamp in "abc"}, "d": "Odd"}):
                self.refuses(make, [list("abcd"), wishes], InvalidWishes, wishes)

    def test_small_ones(self):
        odd = {lamp: "odd" for lamp in "abcd"}
        self.assertEqual(ladder_net(list("dacb"), odd).ties(), [("a", "b"), ("a", "d"), ("b", "c"), ("c", "d")])
        self.assertEqual(comb_net(list("dacb"), odd).ties(), [("a", "b"), ("a", "d"), ("c", "d")])
        self.assertEqual(wheel_net(list("dacb"), odd), full_net(list("abcd"), odd))
        self.assertEqual([make(["a"], {"a": "odd"}).ties() for make in (row_net, star_net, full_net)], [[], [], []])


class Orders(unittest.TestCase):
    def check(self, net, piece, form):
        orders = own_orders(net, piece, form)
        told = in_order(net, piece, form)
        self.assertIn(told, orders or [None])
        for order in itertools.permutations(piece):
            self.assertIs(is_in_order(net, piece, form, list(order)), list(order) in orders)
        for value in [tuple(order) for order in orders[:1]] + [None, piece[1:], piece + piece[:1], piece[:-1] + [None],
                                                               piece[:-1] + ["zz"], "".join(piece), {}, [piece]]:
            self.assertIs(is_in_order(net, piece, form, value), False)
        return bool(orders)

    def test_all_orders_of_all_pieces_of_up_to_five_lamps(self):
        seen = {}
        for many in range(1, 6):
            for ties in hanging_shapes(many):
                net, piece = odd_net(many, ties), list(LETTERS[:many])
                found = [form for form in sorted(MAKERS) if self.check(net, piece, form)]
                self.assertEqual(forms(net, piece), found)
                self.assertEqual(kind_by_forms(net, piece), "paired" if found else None)
                for form in found:
                    seen[form] = seen.get(form, 0) + 1
        self.assertEqual(seen, {"row": 5, "star": 5, "full": 5, "ring": 3, "wheel": 2, "comb": 2, "ladder": 2})

    def test_pieces_beside_others_and_stuck_lamps(self):
        for net in small_nets() + [random_net(seed, 7, 0.35, 0.3) for seed in range(6)]:
            for piece in own_net_pieces(net):
                if len(piece) <= 5:
                    found = [form for form in sorted(MAKERS) if self.check(net, piece, form)]
                    self.assertEqual(forms(net, piece), found)

    def test_shuffled_families_with_a_tie_more_and_one_less(self):
        dice, changed = random.Random(2), 0
        for form, many in itertools.product(MAKERS, range(2, 9)):
            lamps = dice.sample(LETTERS, many)
            ties = own_family(form, lamps)
            if ties is None:
                continue
            pairs = {frozenset(tie) for tie in itertools.combinations(lamps, 2)}
            bent = [ties | {tie} for tie in list(pairs - ties)[:2]] + [ties - {tie} for tie in list(ties)[:2]]
            for some in [ties] + bent:
                net = Net(lamps, [tuple(sorted(tie)) for tie in some], {lamp: "odd" for lamp in lamps})
                for piece in own_net_pieces(net):
                    inner = {tie for tie in some if tie <= set(piece)}
                    for other in MAKERS:
                        told = in_order(net, piece, other)
                        if told is not None:
                            self.assertEqual(own_family(other, told), inner)
                            self.assertIs(is_in_order(net, piece, other, told), True)
                    if some == ties:
                        self.assertIs(is_in_order(net, piece, form, lamps), True)
                        self.assertIsNotNone(in_order(net, piece, form))
                        self.assertIn(form, forms(net, piece))
                    else:
                        self.assertIs(is_in_order(net, sorted(lamps), form, lamps) if piece == sorted(lamps) else False,
                                      False)
                        changed += 1
                        # A tie more or less makes another number of ties, so that no order of all lamps fits.
                        if len(piece) == many:
                            self.assertIsNone(in_order(net, piece, form))
        self.assertGreater(changed, 60)

    def test_which_forms_fit_at_once(self):
        told = {}
        for form, many in itertools.product(MAKERS, range(1, 9)):
            lamps = list(LETTERS[:many])
            if own_family(form, lamps) is not None:
                net = MAKERS[form](lamps, {lamp: "even" for lamp in lamps})
                told[form, many] = forms(net, lamps)
        several = {key: found for key, found in told.items() if len(found) > 1}
        five = ["comb", "full", "ladder", "row", "star"]
        own = {(form, 2): five for form in five}
        own.update({(form, 1): ["full", "row", "star"] for form in ("full", "row", "star")})
        own.update({(form, 3): found for found in (["full", "ring"], ["row", "star"]) for form in found})
        own.update({(form, 4): found for found in (["comb", "row"], ["full", "wheel"], ["ladder", "ring"])
                    for form in found})
        self.assertEqual(several, own)
        self.assertTrue(all(form in found for (form, _), found in told.items()))

    def test_kinds_by_forms(self):
        seen = {}
        for form, many in itertools.product(MAKERS, range(1, 13)):
            lamps = list(LETTERS[:many])
            if own_family(form, lamps) is not None:
                net = MAKERS[form](lamps, {lamp: "even" for lamp in lamps})
                kind = kind_of(net, lamps)
                self.assertEqual(kind_by_forms(net, lamps), kind)
                seen[kind] = seen.get(kind, 0) + 1
        self.assertTrue(seen["core"] >= 13 and seen["paired"] >= 40)
        self.assertIsNone(kind_by_forms(made_net("abcdef", "ab bc cd de ae af"), list("abcdef")))

    def test_words_that_are_no_forms(self):
        net = made_net("abc", "ab bc")
        for form in ("", "Row", "rows", "tree", None, ["row"], ("row",), True, 0, {"row": 1}):
            for function, more in ((in_order, []), (is_in_order, [["a", "b", "c"]])):
                with self.assertRaises(InvalidForm) as held:
                    function(net, ["a", "b", "c"], form, *more)
                self.assertIs(held.exception.value, form)


class Trees(unittest.TestCase):
    def each_piece(self):
        for many in range(1, 7):
            for ties in hanging_shapes(many):
                yield odd_net(many, ties), list(LETTERS[:many])
                # The same with its lamps called the other way about.
                sent = dict(zip(LETTERS[:many], reversed(LETTERS[:many])))
                yield odd_net(many, [tuple(sorted((sent[a], sent[b]))) for a, b in ties]), list(LETTERS[:many])
        for net in small_nets() + [random_net(seed, 8, 0.3, 0.2) for seed in range(12)]:
            for piece in own_net_pieces(net):
                yield net, piece

    def test_trees_forks_and_leaves(self):
        seen = {True: 0, False: 0}
        for net, piece in self.each_piece():
            ties = [tie for tie in net.ties() if tie[0] in piece and tie[1] in piece]
            self.assertIs(is_tree(net, piece), len(ties) == len(piece) - 1)
            forks = own_forks(net, piece)
            self.assertIn(fork(net, piece), forks or [None])
            self.assertIs(is_fork(net, piece, fork(net, piece)), bool(forks))
            seen[bool(forks)] += 1
            if len(piece) <= 5:
                for some in itertools.permutations(net.lamps(), 4):
                    self.assertIs(is_fork(net, piece, some), some in forks)
            for some in forks[:2]:
                one, two = some[1:3]
                for bent in (list(some), some[:3], some + (None,), (some[0], two, one, some[3]), some[:3] + (some[0],),
                             some[:3] + (one,), some[:1] + (one, one, some[3]), some[:3] + (None,), some[::-1]):
                    self.assertIs(is_fork(net, piece, bent), False)
        self.assertTrue(seen[True] > 40 and seen[False] > 40)

    def test_a_tree_has_a_core_exactly_if_it_has_a_fork(self):
        dice, seen = random.Random(3), {"core": 0, "paired": 0}
        for _ in range(150):
            many = dice.randint(1, 10)
            ties = [(LETTERS[dice.randrange(at)], LETTERS[at]) for at in range(1, many)]
            net, piece = odd_net(many, ties), list(LETTERS[:many])
            self.assertIs(is_tree(net, piece), True)
            some = fork(net, piece)
            self.assertEqual(kind_of(net, piece), "paired" if some is None else "core")
            seen[kind_of(net, piece)] += 1
            left = shorn(net, piece)
            if some is None:
                self.assertTrue(all(len(own_inner(net, left, lamp)) <= 2 for lamp in left))
            else:
                beyond = [[near for near in own_inner(net, piece, lamp) if near != some[0]][0] for lamp in some[1:3]]
                self.assertIs(is_core(net, piece, sorted(list(some) + beyond)), True)
        self.assertTrue(seen["core"] > 30 and seen["paired"] > 30)

    def test_a_fork_is_not_enough_with_rings(self):
        net, piece = made_net("abcd", "ab bc ac cd"), list("abcd")
        self.assertEqual([fork(net, piece), is_tree(net, piece), kind_of(net, piece)],
                         [("c", "a", "b", "d"), False, "paired"])

    def test_what_is_shorn(self):
        less = 0
        for net, piece in self.each_piece():
            leaves = [lamp for lamp in piece if len(own_inner(net, piece, lamp)) == 1]
            own = [lamp for lamp in piece if lamp not in leaves
                   or lamp == min(near for near in own_inner(net, piece, own_inner(net, piece, lamp)[0])
                                  if near in leaves)]
            self.assertEqual(shorn(net, piece), own if len(piece) > 2 else piece)
            less += len(own) < len(piece)
        self.assertGreater(less, 20)
        self.assertEqual([shorn(made_net("ab", "ab"), ["a", "b"]), shorn(made_net("a", ""), ["a"])],
                         [["a", "b"], ["a"]])
        net = made_net("abcdexy", "ca cb cd de ex ey")
        self.assertEqual(shorn(net, list("abcdexy")), ["a", "c", "d", "e", "x"])

    def test_stuck_neighbours_are_none_of_the_piece(self):
        net = made_net("abcs", "ab bc as bs cs", "!s")
        self.assertEqual([is_tree(net, list("abc")), forms(net, list("abc")), fork(net, list("abc"))],
                         [True, ["row", "star"], None])
        net = made_net("abcdefs", COMB + " as es", "!s")
        self.assertEqual([fork(net, list("abcdef")), is_fork(net, list("abcdef"), ("a", "b", "s", "b"))],
                         [("c", "b", "d", "f"), False])
        self.assertEqual(forms(made_net("abcdef", WHEEL), list("abcdef")), ["wheel"])


if __name__ == "__main__":
    unittest.main()
