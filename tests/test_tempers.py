"""Points [47] to [51]: rounds, heights, marked points, tempers, and roads of rounds."""

import itertools
import random
import unittest

from helpers import (
    COMB, LETTERS, RING, WHEEL, Net, all_lots, frozen, hanging_shapes, made_net, own_ready, own_sum, own_sums,
    own_ties, own_turn)
from oddlamps.errors import InvalidHeights, InvalidLamps, InvalidSetting, Unpaired
from oddlamps.points import all_points, are_points
from oddlamps.settings import is_road
from oddlamps.tempers import (
    are_heights, even_points, heights, is_odd_round, is_round, is_round_road, is_round_stock, marked_by, odd_round,
    round_road, round_stock, temper)


def nets_of_shape(many, ties, dice):
    """Return two nets of a shape, with any wishes and two stuck lamps, each tied to some of the others."""
    nets = []
    for _ in range(2):
        lamps = list(LETTERS[:many])
        wishes = {lamp: dice.choice(["odd", "even"]) for lamp in lamps}
        more = [(lamp, stuck) for lamp in lamps for stuck in "st" if dice.random() < 0.4]
        nets.append((Net(lamps + ["s", "t"], list(ties) + more, {**wishes, "s": "stuck", "t": "stuck"}), lamps))
    return nets


def each_net(largest):
    """Go through nets of one paired piece of each shape, of so many lamps at most."""
    dice = random.Random(largest)
    for many in range(1, largest + 1):
        for ties in hanging_shapes(many):
            for net, lamps in nets_of_shape(many, ties, dice):
                if all_points(net, lamps):
                    yield net, lamps, dice


def each_points(largest):
    """Go through these nets with ALL ways of points."""
    for net, lamps, dice in each_net(largest):
        for way in all_points(net, lamps):
            yield net, lamps, dict(zip(lamps, way)), dice


def some_settings(net, dice, many=6):
    """Return settings in which the stuck lamps are lit in every way, the free ones at random."""
    free = [lamp for lamp in net.lamps() if lamp not in "st"]
    return [sorted([lamp for lamp in free if dice.random() < 0.5] + lot)
            for lot in all_lots(["s", "t"]) for _ in range(many // 4 + 1)]


def own_rounds(points):
    """Return ALL lists in which each point is joined by an even number of lamps."""
    tops = range(1 + max(high for _, high in points.values()))
    return [lot for lot in all_lots(sorted(points))
            if all(sum(point in points[lamp] for lamp in lot) % 2 == 0 for point in tops)]


def own_heights(net, points, setting):
    """Return ALL dictionaries from the points to 0 or 1 that are unlike just at the lamps with the turn 1."""
    tops = range(1 + max(high for _, high in points.values()))
    turned = {lamp: own_turn(net, setting, lamp) for lamp in points}
    found = [dict(zip(tops, some)) for some in itertools.product((0, 1), repeat=len(tops))]
    return [some for some in found
            if all((some[low] != some[high]) == (turned[lamp] == 1) for lamp, (low, high) in points.items())]


def own_marked(points, setting, levels):
    """Return the points with height 1 or an odd number of lit lamps, not both."""
    return [point for point in sorted(levels)
            if (levels[point] + sum(point in points[lamp] for lamp in points if lamp in setting)) % 2]


class Rounds(unittest.TestCase):
    def test_all_rounds(self):
        for net, lamps, points, _ in each_points(5):
            rounds = own_rounds(points)
            for some in all_lots(net.lamps()):
                self.assertIs(is_round(net, lamps, points, some), some in rounds)

    def test_stocks(self):
        bent_ones = 0
        for net, lamps, points, _ in each_points(5):
            rounds, stock = own_rounds(points), round_stock(net, lamps, points)
            self.assertEqual(own_sums(stock), sorted(rounds))
            self.assertEqual(len(stock), len(lamps) - max(high for _, high in points.values()))
            values = [stock, stock[::-1], stock[1:], stock + [[]], stock + stock[:1], tuple(stock)]
            values.extend(stock + [some] for some in rounds)
            values.extend([*stock[:at], some, *stock[at + 1:]] for at in range(len(stock)) for some in all_lots(lamps))
            values.extend([*stock[:at], own_sum(stock[at], other), *stock[at + 1:]]
                          for at in range(len(stock)) for other in stock)
            for value in values:
                right = isinstance(value, list) and own_sums(value) == sorted(rounds)
                bent_ones += not right
                self.assertIs(is_round_stock(net, lamps, points, value), right)
        self.assertGreater(bent_ones, 200)

    def test_odd_rounds_and_heights(self):
        seen = {True: 0, False: 0}
        for net, lamps, points, dice in each_points(5):
            rounds = own_rounds(points)
            for setting in some_settings(net, dice):
                odd = [some for some in rounds if sum(own_turn(net, setting, lamp) for lamp in some) % 2]
                fitting = own_heights(net, points, setting)
                self.assertIs(bool(odd), not fitting)
                told, levels = odd_round(net, lamps, points, setting), heights(net, lamps, points, setting)
                self.assertIn(told, odd or [None])
                self.assertEqual(frozen(levels), frozen(fitting[0] if fitting else None))
                seen[bool(odd)] += 1
                for some in all_lots(lamps):
                    self.assertIs(is_odd_round(net, lamps, points, setting, some), some in odd)
        self.assertTrue(seen[True] > 50 and seen[False] > 50)


class Heights(unittest.TestCase):
    def test_heights_that_are_judged(self):
        for net, lamps, points, dice in each_points(5):
            top = 1 + max(high for _, high in points.values())
            for setting in some_settings(net, dice, 1):
                fitting = own_heights(net, points, setting)
                for some in itertools.product((0, 1), repeat=top):
                    levels = dict(enumerate(some))
                    self.assertIs(are_heights(net, lamps, points, setting, levels), levels in fitting)
                self.assertIn(len(fitting), (0, 2))

    def test_bent_heights(self):
        for net, lamps, points, dice in each_points(4):
            for setting in some_settings(net, dice, 1):
                for levels in own_heights(net, points, setting):
                    other_way = {point: levels[point] for point in reversed(list(levels))}
                    self.assertIs(are_heights(net, lamps, points, setting, other_way), True)
                    wrong = [{**levels, point: put} for point in levels
                             for put in (1 - levels[point], levels[point] + 2, bool(levels[point]), None, "1", -1)]
                    wrong.extend([{**levels, len(levels): 0}, list(levels.values()), list(levels.items()), {},
                                  {str(point): levels[point] for point in levels}, None, 0, True,
                                  {point: levels[point] for point in list(levels)[1:]},
                                  {point + 1: levels[point] for point in levels},
                                  {True if point == 1 else point: levels[point] for point in levels}])
                    for value in wrong:
                        self.assertIs(are_heights(net, lamps, points, setting, value), False)
                        with self.assertRaises(InvalidHeights) as held:
                            marked_by(net, lamps, points, setting, value)
                        self.assertIs(held.exception.value, value)

    def test_marked_points_and_what_deeds_do(self):
        deeds = 0
        for net, lamps, points, dice in each_points(5):
            wishes, ties = net.wishes(), net.ties()
            for setting in some_settings(net, dice):
                for levels in own_heights(net, points, setting):
                    marks = marked_by(net, lamps, points, setting, levels)
                    self.assertEqual(marks, own_marked(points, setting, levels))
                    for lamp in lamps:
                        ready = own_ready(wishes, ties, setting, lamp)
                        self.assertIs(ready, len(set(points[lamp]) & set(marks)) == 1)
                        if ready:
                            behind = marked_by(net, lamps, points, own_sum(setting, [lamp]), levels)
                            self.assertEqual(behind, own_sum(marks, points[lamp]))
                            deeds += 1
        self.assertGreater(deeds, 500)


class Tempers(unittest.TestCase):
    def test_against_all_points(self):
        seen = {"even": 0, "twisted": 0}
        for net, lamps, dice in each_net(6):
            ways = [dict(zip(lamps, way)) for way in all_points(net, lamps)]
            for setting in some_settings(net, dice, 1):
                even = any(own_heights(net, points, setting) for points in ways)
                told, points = temper(net, lamps, setting), even_points(net, lamps, setting)
                self.assertEqual([told, points is None], ["even", False] if even else ["twisted", True])
                seen[told] += 1
                if even:
                    self.assertIs(are_points(net, lamps, points), True)
                    self.assertEqual(own_ties(lamps, [points[lamp] for lamp in lamps]),
                                     [tie for tie in net.ties() if tie[0] in lamps and tie[1] in lamps])
                    self.assertTrue(own_heights(net, points, setting))
        self.assertTrue(seen["even"] > 100 and seen["twisted"] > 100)

    def test_lamps_in_lots_are_even_tempered_whatever_their_turns(self):
        for sizes in ((1,), (1, 1), (2, 3), (1, 5), (2, 2, 2), (1, 1, 4), (1, 2, 3)):
            lots = [lot for lot, size in enumerate(sizes) for _ in range(size)]
            lamps = list(LETTERS[:len(lots)])
            ties = [(a, b) for (a, one), (b, other) in itertools.combinations(list(zip(lamps, lots)), 2)
                    if one != other]
            for turned in all_lots(lamps):
                net = Net(lamps, ties, {lamp: "even" if lamp in turned else "odd" for lamp in lamps})
                points = even_points(net, lamps, [])
                self.assertEqual(temper(net, lamps, []), "even")
                self.assertIs(are_points(net, lamps, points), True)
                self.assertTrue(own_heights(net, points, []))

    def test_it_hangs_on_the_stuck_lamps_alone(self):
        net, lamps = made_net("abcdest", RING + " as bt ct", "!s !t"), list("abcde")
        for free in all_lots(lamps):
            for stuck, told in (([], "even"), (["s"], "twisted"), (["t"], "even"), (["s", "t"], "twisted")):
                self.assertEqual(temper(net, lamps, sorted(free + stuck)), told)

    def test_pieces_without_points_are_refused_last(self):
        for net, lamps in ((made_net("abcdef", COMB), list("abcdef")), (made_net("abcdef", WHEEL), list("abcdef"))):
            for function in (temper, even_points):
                with self.assertRaises(Unpaired) as held:
                    function(net, lamps, ["a"])
                self.assertIs(held.exception.value, lamps)
                for wrong in (["z"], None, ("a",), ["b", "a"]):
                    with self.assertRaises(InvalidSetting) as held:
                        function(net, lamps, wrong)
                    self.assertIs(held.exception.value, wrong)


class RoundRoads(unittest.TestCase):
    def walks(self, net, lamps, setting):
        """Walk through ALL settings of a piece together with the lamps that are switched oddly."""
        start = (tuple(setting), ())
        found, edge = {start}, [start]
        for now, odd in edge:
            for lamp in lamps:
                if own_ready(net.wishes(), net.ties(), now, lamp):
                    step = (tuple(own_sum(now, [lamp])), tuple(own_sum(odd, [lamp])))
                    if step not in found:
                        found.add(step)
                        edge.append(step)
        return {odd for _, odd in found}

    def check(self, net, lamps, points, setting):
        reached = self.walks(net, lamps, setting)
        for some in own_rounds(points):
            road = round_road(net, lamps, points, setting, some)
            self.assertIs(road is not None, tuple(some) in reached)
            if road is not None:
                self.judge(net, lamps, points, setting, some, road)
            self.assertIs(is_round_road(net, lamps, points, setting, some, []), not some)
            even = sum(own_turn(net, setting, lamp) for lamp in some) % 2 == 0
            still = not any(own_ready(net.wishes(), net.ties(), setting, lamp) for lamp in lamps)
            self.assertIs(road is not None, not some or even and not still)
            self.roads += road is not None and bool(some)

    def judge(self, net, lamps, points, setting, some, road):
        self.assertIs(is_road(net, setting, road), True)
        self.assertEqual([lamp for lamp in lamps if road.count(lamp) % 2], some)
        self.assertTrue(set(road) <= set(lamps))
        self.assertIs(is_round_road(net, lamps, points, setting, some, road), True)
        for bent in (road[:-1], road[1:], tuple(road), road + ["s"], road + [None], road + lamps[:1], road[::-1]):
            right = isinstance(bent, list) and is_road(net, setting, bent) and bent.count("s") == 0
            right = right and [lamp for lamp in lamps if bent.count(lamp) % 2] == some
            self.assertIs(is_round_road(net, lamps, points, setting, some, bent), right)
        for lamp in lamps:
            if is_road(net, setting, road + [lamp]):
                self.assertIs(is_round_road(net, lamps, points, setting, some, road + [lamp, lamp]), True)
                self.assertIs(is_round_road(net, lamps, points, setting, some, road + [lamp]), False)

    def test_roads_of_rounds(self):
        self.roads = 0
        for net, lamps, points, dice in each_points(5):
            if len(own_rounds(points)) > 1:
                for setting in some_settings(net, dice, 1):
                    self.check(net, lamps, points, setting)
        self.assertGreater(self.roads, 100)

    def test_roads_of_rounds_in_six_lamps(self):
        self.roads = 0
        for net, lamps, dice in each_net(6):
            ways = all_points(net, lamps)
            if len(lamps) == 6 and len(ways) == 1:
                self.check(net, lamps, dict(zip(lamps, ways[0])), some_settings(net, dice, 1)[dice.randrange(4)])
        self.assertGreater(self.roads, 50)

    def test_deeds_of_other_pieces_are_none_of_the_piece(self):
        net = made_net("abmxy", "am bm xy", "x")
        points, lamps = {"a": (0, 1), "b": (0, 1), "m": (0, 2)}, ["a", "b", "m"]
        self.assertIs(is_round_road(net, lamps, points, ["m"], ["a", "b"], ["a", "b"]), True)
        for road in (["a", "x", "b"], ["a", "b", "x", "x"], ["x", "a", "b", "x"], ["a", "b", "x"]):
            self.assertIs(is_road(net, ["m"], road), True)
            self.assertIs(is_round_road(net, lamps, points, ["m"], ["a", "b"], road), False)
        for function, more in ((round_road, []), (is_round_road, [["a", "b"]])):
            for wrong in (["a"], ["m"], ["x"], ["b", "a"], ("a", "b"), None, ["a", "b", "m"]):
                with self.assertRaises(InvalidLamps) as held:
                    function(net, lamps, points, ["m"], wrong, *more)
                self.assertIs(held.exception.value, wrong)


if __name__ == "__main__":
    unittest.main()
