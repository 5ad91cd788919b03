"""Points [22] to [26]: sums, what meets oddly, idle lists, lists that solve, still settings, planes."""

import itertools
import random
import unittest

from helpers import (
    all_lots, frozen, made_net, own_meets, own_near, own_net_pieces, own_ready, own_sum, own_sums, random_net,
    small_nets)
from oddlamps.errors import InvalidLamps
from oddlamps.lists import (
    are_planes, idle_base, is_idle, is_idle_base, is_solved, is_why_unsolved, meets_oddly, planes, rank, solved,
    still_number, still_setting, sum_of, why_unsolved)

NETS = small_nets() + [random_net(seed, 9, 0.3, 0.3) for seed in range(12)] + [made_net("abcd", "ab ac ad bc bd cd")]


def each_piece(largest=6):
    """Go through the pieces of all nets, of so many lamps at most."""
    for net in NETS:
        for piece in own_net_pieces(net):
            if len(piece) <= largest:
                yield net, piece


def own_odd(net, piece, some):
    """Return the lamps of a piece with an odd number of neighbours in a list."""
    return [lamp for lamp in piece if len(set(own_near(net.ties(), lamp)) & set(some)) % 2 == 1]


def own_idle_lists(net, piece):
    return [some for some in all_lots(piece) if not own_odd(net, piece, some)]


def own_are_planes(net, pairs, many):
    """Judge planes whose form is right: each meets oddly in itself, and no list one of another tuple."""
    ties = net.ties()
    return len(pairs) == many and all(own_meets(ties, one, other) for one, other in pairs) and not any(
        own_meets(ties, one, other) for pair, further in itertools.combinations(pairs, 2)
        for one in pair for other in further)


class Sums(unittest.TestCase):
    def test_all_sums_of_small_lists(self):
        for one, other in itertools.product(all_lots(["a", "ab", "b", "zzzzzzzz"]), repeat=2):
            self.assertEqual(sum_of(one, other), own_sum(one, other))

    def test_words_that_are_lamps_of_no_net(self):
        self.assertEqual(sum_of(["nolamp", "nowhere"], ["no", "nolamp"]), ["no", "nowhere"])
        for wrong in (["b", "a"], ["a", "a"], ["a", "B"], ["abcdefghi"], [""], [1], ("a",), "a", None,
                      {"a": 1}, [["a"]]):
            for arguments in ((wrong, ["a"]), (["a"], wrong), (wrong, None)):
                with self.assertRaises(InvalidLamps) as held:
                    sum_of(*arguments)
                self.assertIs(held.exception.value, wrong)

    def test_what_meets_oddly(self):
        for net, piece in each_piece(5):
            lots = all_lots(piece)
            for one, other in itertools.product(lots, lots):
                self.assertIs(meets_oddly(net, piece, one, other), own_meets(net.ties(), one, other))


class Idle(unittest.TestCase):
    def test_all_idle_lists(self):
        for net, piece in each_piece(7):
            idle = own_idle_lists(net, piece)
            for some in all_lots(net.lamps()):
                self.assertIs(is_idle(net, piece, some), some in idle)

    def test_bases_that_are_told(self):
        for net, piece in each_piece(8):
            idle, base = own_idle_lists(net, piece), idle_base(net, piece)
            self.assertEqual(own_sums(base), sorted(idle))
            self.assertEqual(rank(net, piece), len(piece) - len(base))
            self.assertEqual(rank(net, piece) % 2, 0)
            self.assertIs(is_idle_base(net, piece, base), True)

    def test_bent_bases(self):
        bent_ones = 0
        for net, piece in each_piece():
            idle, base = own_idle_lists(net, piece), idle_base(net, piece)
            bases = [base[::-1], base[1:], base + [[]], base + base[:1], base + idle[:1], [[]] + base[1:], tuple(base)]
            bases.extend(base + [some] for some in idle)
            bases.extend([*base[:at], some, *base[at + 1:]] for at in range(len(base)) for some in all_lots(piece))
            bases.extend([*base[:at], own_sum(base[at], other), *base[at + 1:]]
                         for at in range(len(base)) for other in base)
            bases.extend([*base[:at], lot[::-1], *base[at + 1:]] for at, lot in enumerate(base) if len(lot) > 1)
            for value in bases:
                right = isinstance(value, list) and own_sums(value) == sorted(idle)
                bent_ones += not right
                self.assertIs(is_idle_base(net, piece, value), right and all(lot == sorted(lot) for lot in value))
        self.assertGreater(bent_ones, 200)

    def test_all_lists_of_idle_lists_of_small_pieces(self):
        for words, ties in (("abcm", "am bm cm"), ("abcd", "ab bc cd ad"), ("abc", "ab ac bc"), ("a", "")):
            net, piece = made_net(words, ties), list(words)
            idle = own_idle_lists(net, piece)
            for many in range(4):
                for value in itertools.product(idle, repeat=many):
                    self.assertIs(is_idle_base(net, piece, list(value)), own_sums(list(value)) == sorted(idle))


class Solved(unittest.TestCase):
    def test_all_wanted_lists(self):
        unsolved = 0
        for net, piece in each_piece(5):
            lots, idle = all_lots(piece), own_idle_lists(net, piece)
            made = {tuple(lot): own_odd(net, piece, lot) for lot in lots}
            for wanted in lots:
                solving = [lot for lot in lots if made[tuple(lot)] == wanted]
                barring = [lot for lot in idle if len(set(lot) & set(wanted)) % 2]
                told, bar = solved(net, piece, wanted), why_unsolved(net, piece, wanted)
                self.assertEqual([told in solving, bar in barring], [bool(solving), bool(barring)])
                self.assertEqual([told is None, bar is None], [not solving, bool(solving)])
                unsolved += told is None
                for value in lots:
                    self.assertIs(is_solved(net, piece, wanted, value), value in solving)
                    self.assertIs(is_why_unsolved(net, piece, wanted, value), value in barring)
        self.assertGreater(unsolved, 100)

    def test_greater_pieces(self):
        for net, piece in each_piece(9):
            for wanted in all_lots(piece)[::7]:
                told, bar = solved(net, piece, wanted), why_unsolved(net, piece, wanted)
                self.assertTrue((told is None) != (bar is None))
                if told is not None:
                    self.assertEqual(own_odd(net, piece, told), wanted)
                else:
                    self.assertEqual([own_odd(net, piece, bar), len(set(bar) & set(wanted)) % 2], [[], 1])


class Still(unittest.TestCase):
    def test_all_settings_of_a_piece(self):
        seen = {True: 0, False: 0}
        for net, piece in each_piece(5):
            dice = random.Random(len(piece))
            outside = [lamp for lamp in net.lamps() if lamp not in piece]
            for _ in range(4):
                beside = [lamp for lamp in outside if dice.random() < 0.5]
                still = [sorted(beside + lot) for lot in all_lots(piece) if not any(
                    own_ready(net.wishes(), net.ties(), sorted(beside + lot), lamp) for lamp in piece)]
                for lot in all_lots(piece)[::5]:
                    setting = sorted(beside + lot)
                    self.assertEqual(still_number(net, piece, setting), len(still))
                    told = still_setting(net, piece, setting)
                    self.assertEqual(told in still, bool(still))
                    self.assertIs(told is None, not still)
                    seen[bool(still)] += 1
        self.assertTrue(seen[True] > 50 and seen[False] > 20)


class Planes(unittest.TestCase):
    def test_planes_that_are_told(self):
        for net, piece in each_piece(8):
            told = planes(net, piece)
            self.assertEqual(len(told), rank(net, piece) // 2)
            self.assertTrue(own_are_planes(net, told, len(told)))
            self.assertIs(are_planes(net, piece, told), True)
            base = idle_base(net, piece)
            self.assertEqual(own_sums([lot for pair in told for lot in pair] + base), sorted(all_lots(piece)))

    def test_bent_planes(self):
        bent_ones = 0
        for net, piece in each_piece():
            told, idle = planes(net, piece), own_idle_lists(net, piece)
            values = [told[::-1], [pair[::-1] for pair in told], told[1:], told + told[:1], told + [([], [])]]
            for at, (one, other) in enumerate(told):
                for lot in idle:
                    values.append(told[:at] + [(own_sum(one, lot), other)] + told[at + 1:])
                    values.append(told[:at] + [(one, own_sum(other, lot))] + told[at + 1:])
                for lamp in piece:
                    values.append(told[:at] + [(own_sum(one, [lamp]), other)] + told[at + 1:])
                    values.append(told[:at] + [(one, own_sum(other, [lamp]))] + told[at + 1:])
                values.append(told[:at] + [(one, own_sum(one, other))] + told[at + 1:])
                values.append(told[:at] + [(one, one)] + told[at + 1:])
            for value in values:
                right = own_are_planes(net, value, rank(net, piece) // 2)
                bent_ones += not right
                self.assertIs(are_planes(net, piece, value), right)
            for value in (tuple(told), [list(pair) for pair in told], [pair + ([],) for pair in told]):
                self.assertIs(are_planes(net, piece, value), isinstance(value, list) and not told)
        self.assertGreater(bent_ones, 300)

    def test_pieces_of_rank_nought(self):
        net = made_net("abs", "as bs", "b !s")
        for piece in (["a"], ["b"]):
            told = [rank(net, piece), planes(net, piece), idle_base(net, piece), are_planes(net, piece, []),
                    is_idle_base(net, piece, [piece]), is_idle_base(net, piece, []), are_planes(net, piece, [([], [])])]
            self.assertEqual(frozen(told), frozen([0, [], [piece], True, True, False, False]))
            self.assertEqual([solved(net, piece, piece), why_unsolved(net, piece, piece)], [None, piece])


if __name__ == "__main__":
    unittest.main()
