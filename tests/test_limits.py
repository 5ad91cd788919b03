"""Point [3]: calls at the limits answer, within a second or so each; a little beyond nothing is raised for this."""

import itertools
import random
import unittest

from great import NAMES, great_tuples, net_of_tuples, timed
from helpers import Net, frozen, own_near, own_pieces, own_ties, random_walk
from oddlamps.nets import (
    cut_to, free_lamps, hang_together, is_piece, piece_of, pieces, renamed, side_by_side, stuck_lamps, without_stuck)
from oddlamps.points import (
    all_points, are_moves, are_points, are_shortest_moves, doubles, far, fewest_moves, is_paired, is_steepest,
    lamps_at, many_ways, moves, points_of, put_in_order, rise, shortest_moves, steepest)
from oddlamps.settings import (
    cut_short, is_road, led, led_along, ready_lamps, setting_shifted, shifted, still_pieces)


class Limits(unittest.TestCase):
    def check_points(self, tuples):
        net, lamps = net_of_tuples(tuples, 40 - len(tuples) if len(tuples) < 40 else 0)
        own = dict(zip(lamps, tuples))
        self.assertIs(timed(self, are_points, net, lamps, own), True)
        self.assertIs(timed(self, are_points, net, lamps, {**own, lamps[-1]: (0, 60)}), False)
        self.assertIs(timed(self, is_paired, net, lamps), True)
        told = timed(self, points_of, net, lamps)
        self.assertIs(timed(self, are_points, net, lamps, told), True)
        ways = timed(self, many_ways, net, lamps)
        self.assertIn(ways, (1, 2 ** (len(lamps) - 2)))
        ordered = timed(self, put_in_order, net, lamps, own)
        self.assertIs(are_points(net, lamps, ordered), True)
        if ways == 1:
            self.assertEqual(frozen(ordered), frozen(told))
            self.assertEqual(timed(self, all_points, net, lamps), [list(ordered.values())])
        top = 1 + max(high for _, high in tuples)
        self.assertEqual(len(lamps_at(net, lamps, own, top - 1)), sum(top - 1 in pair for pair in tuples))
        self.assertEqual(timed(self, doubles, net, lamps, own),
                         [(a, b) for a, b in itertools.combinations(lamps, 2) if own[a] == own[b]])
        return net, lamps, own, top

    def check_marks(self, net, lamps, own, top, many):
        dice = random.Random(top)
        for _ in range(4):
            marks, wished = sorted(dice.sample(range(top), many)), sorted(dice.sample(range(top), many))
            call = [net, lamps, own, marks, wished]
            fewest = timed(self, fewest_moves, *call)
            road = timed(self, shortest_moves, *call)
            self.assertEqual(len(road), fewest)
            self.assertIs(timed(self, are_moves, *call, road), True)
            self.assertIs(timed(self, are_shortest_moves, *call, road), True)
            slope = timed(self, steepest, *call)
            self.assertEqual(timed(self, rise, *call, slope), fewest)
            self.assertIs(timed(self, is_steepest, *call, slope), True)
            timed(self, moves, net, lamps, own, marks)
        self.assertLess(timed(self, far, net, lamps, own, 0, top - 1), top)

    def test_points_and_six_marks_of_24_lamps(self):
        for tuples in great_tuples(24):
            net, lamps, own, top = self.check_points(tuples)
            self.check_marks(net, lamps, own, top, min(6, top))

    def test_a_little_beyond(self):
        for tuples in great_tuples(27) + great_tuples(41)[:4]:
            net, lamps, own, top = self.check_points(tuples)
            self.check_marks(net, lamps, own, top, min(8, top))

    def test_lots_of_24_lamps(self):
        for lots in ((12, 12), (1, 23), (8, 8, 8), (1, 1, 22), (20, 2, 2)):
            lot_of = [at for at, many in enumerate(lots) for _ in range(many)]
            random.Random(4).shuffle(lot_of)
            lamps = NAMES[:24]
            ties = [(one, other) for (one, a), (other, b) in itertools.combinations(list(zip(lamps, lot_of)), 2)
                    if a != b]
            net = Net(lamps, ties, {lamp: "odd" for lamp in lamps})
            self.assertEqual(timed(self, many_ways, net, lamps), 2 ** 22)
            told = timed(self, points_of, net, lamps)
            self.assertIs(are_points(net, lamps, told), True)
            self.assertEqual(put_in_order(net, lamps, told), told)

    def test_all_points_of_ten_lamps_and_a_few_more(self):
        for many in (10, 11):
            for lots in ((many // 2, many - many // 2), (1, many - 1), (3, 3, many - 6)):
                lot_of = [at for at, size in enumerate(lots) for _ in range(size)]
                lamps = NAMES[:many]
                ties = [(one, other) for (one, a), (other, b) in itertools.combinations(list(zip(lamps, lot_of)), 2)
                        if a != b]
                net = Net(lamps, ties, {lamp: "odd" for lamp in lamps})
                told = timed(self, all_points, net, lamps)
                self.assertEqual(len(told), 2 ** (many - 2))
                self.assertEqual(told, sorted(told))
                self.assertEqual(len({tuple(way) for way in told}), len(told))
                for way in told:
                    self.assertEqual(own_ties(lamps, way), sorted(ties))

    def test_great_pieces_that_are_not_paired(self):
        dice = random.Random(5)
        lamps = NAMES[:24]
        for share in (0.1, 0.3, 0.5, 0.9):
            tree = [(lamps[dice.randrange(at)], lamps[at]) for at in range(1, 24)]
            ties = sorted(set(tree) | {tie for tie in itertools.combinations(lamps, 2) if dice.random() < share})
            net = Net(lamps, ties, {lamp: "odd" for lamp in lamps})
            self.assertIs(timed(self, is_paired, net, lamps), False)
            self.assertEqual([timed(self, points_of, net, lamps), timed(self, many_ways, net, lamps),
                              timed(self, all_points, net, lamps)], [None, 0, []])

    def test_lots_with_one_tie_away(self):
        """Lots are doubles around one point, so that any number of them is paired; four with a tie away are not."""
        lamps = NAMES[:24]
        for lots in (2, 3, 4, 5, 24):
            ties = [(one, other) for (a, one), (b, other) in itertools.combinations(list(enumerate(lamps)), 2)
                    if a % lots != b % lots]
            for gone in ([], ties[-1:], ties[:1]):
                left = [tie for tie in ties if tie not in gone]
                net = Net(lamps, left, {lamp: "even" for lamp in lamps})
                told = timed(self, points_of, net, lamps)
                self.assertIs(told is not None, lots < 4 or not gone or lots == 24)
                if told is not None:
                    self.assertEqual(own_ties(lamps, list(told.values())), left)
                    self.assertEqual(many_ways(net, lamps), 2 ** 22 if lots < 4 and not gone else 1)

    def test_lots_that_hang_between_two_pairs_that_come_first(self):
        """Whoever begins with four lamps that have no idle list, but fall apart, goes through all of the lots."""
        tuples = [(0, 1), (0, 2), (3, 4), (4, 5)] + [(0, 1), (0, 2)] * 9 + [(2, 3)]
        net, lamps = net_of_tuples(tuples)
        told = timed(self, points_of, net, lamps)
        self.assertEqual(own_ties(lamps, list(told.values())), own_ties(lamps, tuples))
        self.assertEqual(timed(self, many_ways, net, lamps), 1)
        self.assertIs(timed(self, is_paired, net, lamps), True)

    def test_a_net_of_40_lamps(self):
        dice = random.Random(6)
        for many in (40, 44):
            lamps = NAMES[:many]
            for share in (0.03, 0.1, 0.9):
                ties = [tie for tie in itertools.combinations(lamps, 2) if dice.random() < share]
                wishes = {lamp: dice.choice(["odd", "even", "stuck", "even"]) for lamp in lamps}
                net = timed(self, Net, lamps[::-1], ties[::-1], wishes)
                free = timed(self, free_lamps, net)
                own = [list(piece) for piece in own_pieces(free, ties)]
                self.assertEqual(timed(self, pieces, net), own)
                self.assertIs(timed(self, is_piece, net, own[0]), True)
                self.assertEqual(timed(self, piece_of, net, own[-1][0]), own[-1])
                self.assertIs(timed(self, hang_together, net, lamps), len(own_pieces(lamps, ties)) == 1)
                self.assertEqual(timed(self, cut_to, net, lamps), net)
                other = timed(self, renamed, net, dict(zip(lamps, ["z" + lamp for lamp in lamps])))
                self.assertEqual(len(timed(self, side_by_side, net, other).lamps()), 2 * many)
                rest = timed(self, without_stuck, net, stuck_lamps(net))
                self.assertEqual(rest.lamps(), free)
                self.check_roads(net, lamps, dice)

    def check_roads(self, net, lamps, dice):
        start = [lamp for lamp in lamps if dice.random() < 0.5]
        road, behind = random_walk(net, start, 300, dice)
        there_and_back = (road + road[::-1]) * 4 + road
        self.assertIs(timed(self, is_road, net, start, there_and_back), True)
        self.assertEqual(timed(self, led, net, start, there_and_back), behind)
        self.assertEqual(len(timed(self, led_along, net, start, there_and_back)), len(there_and_back) + 1)
        left = timed(self, cut_short, net, start, there_and_back)
        self.assertEqual(led(net, start, left), behind)
        chosen = lamps[::3]
        other, moved = timed(self, shifted, net, chosen), timed(self, setting_shifted, net, start, chosen)
        self.assertEqual(timed(self, ready_lamps, other, moved), ready_lamps(net, start))
        self.assertEqual(timed(self, still_pieces, other, moved), still_pieces(net, start))

    def test_a_long_road_of_lamps_that_hinder_one_another_late(self):
        lamps = NAMES[:40]
        net = Net(lamps, [], {lamp: "even" for lamp in lamps})
        road = [lamps[at // 2 % 39] if at % 2 else lamps[39] for at in range(2600)]
        self.assertEqual(own_near(net.ties(), lamps[0]), [])
        self.assertEqual(led(net, [], timed(self, cut_short, net, [], road)), timed(self, led, net, [], road))

    def test_a_long_road_on_which_nothing_can_be_struck(self):
        """Three lamps in a ring go round and round; none of their deeds takes back another one."""
        net = Net(["a", "b", "c", "x"], [("a", "b"), ("a", "c"), ("b", "c")],
                  {"a": "odd", "b": "odd", "c": "odd", "x": "even"})
        road = ["b", "a", "c"] * 832
        self.assertIs(timed(self, is_road, net, ["a"], road), True)
        self.assertEqual(timed(self, cut_short, net, ["a"], road), road)
        self.assertEqual(timed(self, cut_short, net, ["a"], ["x"] + road + ["x"]), road)


if __name__ == "__main__":
    unittest.main()
