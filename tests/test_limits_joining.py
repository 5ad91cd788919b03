"""Point [3] for tempers, joining, ways and roads: calls at the limits answer, and a little beyond them, too."""

import random
import unittest

from great import NAMES, great_pieces, great_tuples, net_of_tuples, random_great, timed
from helpers import Net, made_net, own_sum, random_net, random_walk
from oddlamps.joining import (
    helping_lamps, is_nearest_joined, is_why_apart, joined, joined_pieces, joined_with, least_unlike, nearest_joined,
    parting_pieces, why_apart)
from oddlamps.nets import side_by_side, stuck_lamps
from oddlamps.roads import (
    by_deeds, class_of, farthest, fewest_deeds, first_deeds, is_farthest, is_shortest_road, many_shortest,
    shortest_road, width)
from oddlamps.settings import is_road, led, ready_lamps
from oddlamps.tempers import (
    are_heights, even_points, heights, is_odd_round, is_round, is_round_road, is_round_stock, marked_by, odd_round,
    round_road, round_stock, temper)
from oddlamps.ways import is_piece_way, is_way, way_between, way_bound


def any_setting(net, dice):
    return [lamp for lamp in net.lamps() if dice.random() < 0.5]


def there_and_back(net, setting, many, dice):
    """Return a road of just so many deeds, an even number, that leads to where it begins."""
    road, _ = random_walk(net, setting, many // 2, dice)
    return road + road[::-1]


class Tempers(unittest.TestCase):
    def test_rounds_heights_and_tempers_of_24_lamps_and_a_few_more(self):
        dice, seen = random.Random(1), {"even": 0, "twisted": 0}
        for many in (24, 27):
            for tuples in great_tuples(many):
                net, piece = net_of_tuples(tuples, 40 - many)
                points, setting = dict(zip(piece, tuples)), any_setting(net, dice)
                stock = timed(self, round_stock, net, piece, points)
                self.assertEqual(len(stock), many - max(high for _, high in tuples))
                self.assertIs(timed(self, is_round_stock, net, piece, points, stock[::-1]), True)
                self.assertIs(timed(self, is_round, net, piece, points, stock[0] if stock else []), True)
                told, levels = [timed(self, call, net, piece, points, setting) for call in (odd_round, heights)]
                self.assertTrue((told is None) != (levels is None))
                self.assertIs(timed(self, is_odd_round, net, piece, points, setting, told), levels is None)
                self.assertIs(timed(self, are_heights, net, piece, points, setting, levels), told is None)
                if levels is not None:
                    timed(self, marked_by, net, piece, points, setting, levels)
                kind, even = timed(self, temper, net, piece, setting), timed(self, even_points, net, piece, setting)
                self.assertEqual(kind == "even", even is not None)
                if even is not None:
                    self.assertIsNotNone(heights(net, piece, even, setting))
                seen[kind] += 1
        self.assertTrue(seen["even"] > 5 and seen["twisted"] > 5)

    def test_roads_of_rounds_in_twelve_lamps_and_more(self):
        dice, found = random.Random(2), 0
        for many in (12, 14, 24):
            for tuples in great_tuples(many):
                net, piece = net_of_tuples(tuples, 3)
                points, setting = dict(zip(piece, tuples)), any_setting(net, dice)
                for lamps in round_stock(net, piece, points)[:4]:
                    road = timed(self, round_road, net, piece, points, setting, lamps)
                    if road is not None and ready_lamps(net, setting):
                        found += 1
                        longer = road + there_and_back(net, led(net, setting, road), 2600 - len(road), dice)
                        for value in (road, longer):
                            told = timed(self, is_round_road, net, piece, points, setting, lamps, value)
                            self.assertIs(told, True)
        self.assertGreater(found, 20)


class Joining(unittest.TestCase):
    def test_great_pieces_and_nets_of_40_lamps(self):
        dice, words = random.Random(3), set()
        nets = [net for net, _ in great_pieces()] + [random_net(seed, 26, 0.1, 0.3) for seed in range(4)]
        nets.extend(side_by_side(net_of_tuples(tuples, 4)[0], made_net("klmnopqr", "kl lm mn no pq qr"))
                    for tuples in great_tuples(24)[:6])
        for net in nets:
            one, stuck = any_setting(net, dice), set(stuck_lamps(net))
            for other in (random_walk(net, one, 300, dice)[1], own_sum(one, net.lamps()[:1]),
                          sorted(set(any_setting(net, dice)) - stuck | set(one) & stuck)):
                told = timed(self, joined, net, one, other)
                parting = timed(self, parting_pieces, net, one, other)
                timed(self, joined_pieces, net, one, other)
                paper, road = timed(self, why_apart, net, one, other), timed(self, way_between, net, one, other)
                self.assertEqual([paper is None, road is None], [told, not told])
                self.assertIs(timed(self, is_why_apart, net, one, other, paper), not told)
                words.add(paper and paper[0])
                if told:
                    self.assertEqual(parting, [])
                    self.assertIs(timed(self, is_way, net, one, other, road), True)
            for lamp in timed(self, helping_lamps, net, one, other)[:2]:
                self.assertIs(timed(self, joined_with, net, one, other, lamp), True)
        self.assertEqual(words, {None, "stuck", "still", "sign", "marks"})

    def test_roads_of_2500_deeds_that_are_judged(self):
        dice = random.Random(4)
        for net, piece in great_pieces()[::3]:
            one = any_setting(net, dice)
            for many in (2500, 2600):
                road = there_and_back(net, one, many, dice)
                self.assertEqual(len(road) in (0, many), True)
                fits = len(road) <= way_bound(net)
                self.assertIs(timed(self, is_way, net, one, one, road), fits)
                self.assertIs(timed(self, is_piece_way, net, piece, one, one, road), fits)
        net = made_net("abcdef", "ab bc cd de cf")
        road = there_and_back(net, ["a"], 2500, dice)
        self.assertIs(is_road(net, ["a"], road), True)
        for function in (is_way, is_shortest_road):
            self.assertIs(timed(self, function, net, ["a"], ["a"], road), False)


def free_nets(many):
    """Return nets of so many free lamps in all, with stuck ones: a core, paired ones, many pieces."""
    nets = [random_great(many, many, share, 40 - many)[0] for share in (0, 0.2, 0.7)]
    nets.extend(net_of_tuples(tuples, 5)[0] for tuples in great_tuples(many)[:6:2])
    lamps = NAMES[:many]
    nets.append(Net(lamps, [], {lamp: "even" for lamp in lamps}))
    nets.append(Net(lamps, list(zip(lamps[::3], lamps[1::3])), {lamp: "even" if lamp in lamps[::3] else "odd"
                                                                for lamp in lamps}))
    return nets


class FreeLamps(unittest.TestCase):
    def test_twelve_free_lamps_in_all_and_one_more(self):
        dice = random.Random(5)
        for net in free_nets(12) + free_nets(13)[::2]:
            one = any_setting(net, dice)
            _, other = random_walk(net, one, 60, dice)
            fewest, road = timed(self, fewest_deeds, net, one, other), timed(self, shortest_road, net, one, other)
            self.assertEqual([led(net, one, road), len(road)], [other, fewest])
            self.assertIs(timed(self, is_shortest_road, net, one, other, road), True)
            many, first = timed(self, many_shortest, net, one, other), timed(self, first_deeds, net, one, other)
            self.assertEqual([many > 0, road[:1] == [] or road[0] in first], [True, True])
            settings, numbers = timed(self, class_of, net, one), timed(self, by_deeds, net, one)
            self.assertEqual([sum(numbers), other in settings], [len(settings), True])
            far = timed(self, farthest, net, one)
            self.assertEqual(fewest_deeds(net, one, far), len(numbers) - 1)
            self.assertIs(timed(self, is_farthest, net, one, far), True)
            aim = own_sum(any_setting(net, dice), [])
            near, least = timed(self, nearest_joined, net, one, aim), timed(self, least_unlike, net, one, aim)
            self.assertEqual(len(own_sum(near, aim)), least)
            self.assertEqual(least, min(len(own_sum(now, aim)) for now in settings))
            self.assertIs(timed(self, is_nearest_joined, net, one, aim, near), True)

    def test_width_of_eight_free_lamps_and_one_more(self):
        dice = random.Random(6)
        for net in free_nets(8) + free_nets(9)[::3]:
            one = any_setting(net, dice)
            wide = timed(self, width, net, one)
            self.assertGreaterEqual(wide, len(by_deeds(net, one)) - 1)
            self.assertGreaterEqual(2 * (len(by_deeds(net, one)) - 1), wide)
            self.assertEqual(wide, width(net, farthest(net, one)))


if __name__ == "__main__":
    unittest.main()
