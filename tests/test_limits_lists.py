"""Point [3] for lists, signs, works and cores: calls at the limits answer, and a little beyond them, too."""

import itertools
import random
import unittest

from great import great_pieces, great_tuples, net_of_tuples, random_great, timed
from helpers import grown_work, own_net_pieces, own_sum
from oddlamps.cores import all_cores, core_of, in_all_cores, is_core, kind_of, left_of
from oddlamps.lists import (
    are_planes, idle_base, is_idle, is_idle_base, is_solved, is_why_unsolved, meets_oddly, planes, rank, solved,
    still_number, still_setting, sum_of, why_unsolved)
from oddlamps.settings import led, still_pieces
from oddlamps.signs import alike_stuck, sign, sign_with, signs, turn, turned_by, turns
from oddlamps.works import deeds_of, exchanged, is_work, setting_exchanged, worked, worked_list


class Limits(unittest.TestCase):
    def check_lists(self, net, piece, dice):
        one, other = [[lamp for lamp in piece if dice.random() < 0.5] for _ in range(2)]
        self.assertEqual(timed(self, sum_of, one, other), own_sum(one, other))
        self.assertIn(timed(self, meets_oddly, net, piece, one, other), (True, False))
        base, pairs = timed(self, idle_base, net, piece), timed(self, planes, net, piece)
        self.assertEqual(timed(self, rank, net, piece), len(piece) - len(base))
        self.assertEqual(2 * len(pairs) + len(base), len(piece))
        self.assertIs(timed(self, is_idle_base, net, piece, base), True)
        self.assertIs(timed(self, is_idle_base, net, piece, base + [[]]), False)
        self.assertIs(timed(self, are_planes, net, piece, pairs), True)
        self.assertIs(timed(self, are_planes, net, piece, pairs + pairs[:1]), False)
        self.assertIs(timed(self, is_idle, net, piece, base[0] if base else []), True)
        told, bar = timed(self, solved, net, piece, one), timed(self, why_unsolved, net, piece, one)
        self.assertTrue((told is None) != (bar is None))
        self.assertIs(timed(self, is_solved, net, piece, one, told), bar is None)
        self.assertIs(timed(self, is_why_unsolved, net, piece, one, bar), told is None)
        setting = [lamp for lamp in net.lamps() if dice.random() < 0.5]
        still, many = timed(self, still_setting, net, piece, setting), timed(self, still_number, net, piece, setting)
        self.assertEqual(many, 0 if still is None else 2 ** len(base))
        if still is not None:
            self.assertIn(piece, still_pieces(net, still))

    def check_signs_and_works(self, net, piece, dice):
        setting = [lamp for lamp in net.lamps() if dice.random() < 0.5]
        told = timed(self, turns, net, setting)
        self.assertEqual(timed(self, turn, net, setting, piece[-1]), told[piece[-1]])
        self.assertEqual(timed(self, signs, net, setting)[own_net_pieces(net).index(piece)],
                         timed(self, sign, net, piece, setting))
        some = [lamp for lamp in piece if dice.random() < 0.5]
        self.assertEqual(timed(self, sign_with, net, piece, setting, some), sign(net, piece, own_sum(setting, some)))
        self.assertIs(timed(self, alike_stuck, net, setting, own_sum(setting, some)), True)
        for lamp in [lamp for lamp in net.lamps() if lamp not in told][:3]:
            timed(self, turned_by, net, lamp)
        for many in (60, 64):
            work, total = grown_work(net, piece, many, dice)
            self.assertIs(timed(self, is_work, net, piece, work), True)
            self.assertEqual(timed(self, worked_list, net, piece, work), total)
            behind = timed(self, worked, net, piece, setting, work)
            self.assertEqual(led(net, setting, timed(self, deeds_of, net, piece, setting, work)), behind)
        one, other = [tie for tie in net.ties() if tie[0] in piece and tie[1] in piece][0]
        there = timed(self, exchanged, net, one, other)
        self.assertEqual(exchanged(there, one, other), net)
        moved = timed(self, setting_exchanged, net, one, other, setting)
        self.assertEqual(setting_exchanged(net, one, other, moved), setting)

    def test_lists_signs_and_works_of_great_pieces(self):
        dice = random.Random(1)
        for net, piece in great_pieces():
            self.check_lists(net, piece, dice)
            self.check_signs_and_works(net, piece, dice)

    def test_cores_of_great_pieces(self):
        dice, seen = random.Random(2), {"core": 0, "paired": 0}
        for net, piece in great_pieces():
            kind = timed(self, kind_of, net, piece)
            seen[kind] += 1
            core = timed(self, core_of, net, piece)
            self.assertEqual(core is None, kind == "paired")
            self.assertIs(timed(self, is_core, net, piece, core), kind == "core")
            for order in (piece, piece[::-1], dice.sample(piece, len(piece))):
                left = timed(self, left_of, net, piece, order)
                self.assertIs(is_core(net, piece, left), kind == "core")
                self.assertEqual(len(left), 6 if kind == "core" else len(piece))
        self.assertTrue(seen["core"] >= 10 and seen["paired"] >= 10)

    def test_all_cores_of_twelve_lamps_and_a_few_more(self):
        for many, share in itertools.product((12, 13, 14), (0, 0.2, 0.5, 0.9)):
            net, piece = random_great(many, many, share, 3)
            cores = timed(self, all_cores, net, piece)
            self.assertEqual(cores, sorted(cores))
            self.assertEqual(timed(self, in_all_cores, net, piece),
                             [lamp for lamp in piece if cores and all(lamp in core for core in cores)])
            self.assertTrue(all(is_core(net, piece, core) for core in cores[:20]))
            self.assertEqual(bool(cores), kind_of(net, piece) == "core")
        for tuples in great_tuples(12):
            net, piece = net_of_tuples(tuples, 4)
            self.assertEqual([timed(self, all_cores, net, piece), timed(self, in_all_cores, net, piece)], [[], []])


if __name__ == "__main__":
    unittest.main()
