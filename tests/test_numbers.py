"""Points [65] to [69]: numbers of settings by sign, by marks, by classes, and of still ones, against ALL settings."""

import collections
import math
import random
import unittest

from helpers import (
    COMB, RING, all_lots, frozen, made_net, own_free, own_meets, own_net_pieces, own_reached, own_ready, own_sign,
    own_sum, random_net, small_nets)
from oddlamps.errors import InvalidHeights, InvalidLamps
from oddlamps.lists import idle_base, planes
from oddlamps.numbers import (
    by_marks, by_planes, by_sign, class_number, class_size, classes_by_size, still_by_sign, whole_number, whole_size)
from oddlamps.points import all_points
from test_lists import own_are_planes
from test_tempers import own_heights, own_marked

NETS = small_nets() + [random_net(seed, 7, 0.35, 0.3) for seed in range(12)] + [
    made_net("abcdest", RING + " as bt ct", "!s !t"), made_net("abxyzs", "ab xy xz as xs", "x !s"),
    made_net("abcmnop", "am bm cm mn no mp", "b n"), made_net("st", "st", "!s !t")]


def stuck_settings(net):
    """Return settings in which the stuck lamps are lit in every way, free lamps of other pieces, too."""
    free = own_free(net)
    stuck = [lamp for lamp in net.lamps() if lamp not in free]
    return [sorted(lot + free[::2]) for lot in all_lots(stuck)]


def each_piece():
    """Go through the pieces of all nets with settings for their stuck lamps."""
    for net in NETS:
        for setting in stuck_settings(net):
            for piece in own_net_pieces(net):
                yield net, piece, setting


def piece_settings(piece, setting):
    """Return ALL settings in which the lamps outside a piece are as in one."""
    others = [lamp for lamp in setting if lamp not in piece]
    return [sorted(others + lot) for lot in all_lots(piece)]


def own_still(net, piece, setting):
    return not any(own_ready(net.wishes(), net.ties(), setting, lamp) for lamp in piece)


def own_by_sign(net, piece, settings):
    signs = [own_sign(net, piece, now) for now in settings]
    return (signs.count(0), signs.count(1))


def own_classes(net, piece, setting):
    """Return the classes, each as a list of settings, into which ALL settings of a piece fall, by walks."""
    left, classes = {tuple(now) for now in piece_settings(piece, setting)}, []
    while left:
        found = own_reached(net, min(left), piece)
        classes.append([list(now) for now in found])
        left -= set(found)
    return classes


class Signs(unittest.TestCase):
    def test_all_settings_by_sign(self):
        seen = set()
        for net, piece, setting in each_piece():
            own = own_by_sign(net, piece, piece_settings(piece, setting))
            self.assertEqual(frozen(by_sign(net, piece, setting)), frozen(own))
            seen.add((own[0] > own[1]) - (own[0] < own[1]))
        self.assertEqual(seen, {-1, 0, 1})

    def test_any_planes_and_any_idle_base_tell_the_same(self):
        dice, other_ones = random.Random(1), 0
        for net, piece, setting in each_piece():
            own = by_sign(net, piece, setting)
            pairs, base = planes(net, piece), idle_base(net, piece)
            for _ in range(3):
                self.assertEqual(frozen(by_planes(net, piece, setting, pairs, base)), frozen(own))
                pairs, base = self.turned(dice, pairs, base)
                other_ones += pairs != planes(net, piece)
                self.assertTrue(own_are_planes(net, pairs, len(pairs)))
        self.assertGreater(other_ones, 100)

    def turned(self, dice, pairs, base):
        """Return other planes and another base: turned, put in another order, with lists added to lists."""
        told = []
        for one, other in pairs:
            one, other = dice.choice([(one, other), (other, one), (own_sum(one, other), other)])
            for idle in base:
                one, other = dice.choice([(one, other), (own_sum(one, idle), other), (one, own_sum(other, idle))])
            told.append((one, other))
        if len(told) > 1:
            (one, other), (further, last) = told[:2]
            told[:2] = [(own_sum(one, further), other), (further, own_sum(last, other))]
        more = [own_sum(lamps, base[0]) if at else lamps for at, lamps in enumerate(base)]
        return dice.sample(told, len(told)), dice.sample(more, len(more))

    def test_what_is_no_planes_or_no_base(self):
        for net, piece, setting in list(each_piece())[::5]:
            pairs, base = planes(net, piece), idle_base(net, piece)
            bent = [pairs + [([], [])], pairs + pairs[:1], tuple(pairs), None, [list(pair) for pair in pairs] or 0]
            bent.extend([pairs[1:], [(one, one) for one, _ in pairs], [pair + ([],) for pair in pairs]] * bool(pairs))
            for value in [value for value in bent if value != pairs]:
                self.refuses(by_planes, [net, piece, setting, value, base], InvalidLamps, value)
                self.refuses(by_planes, [net, piece, setting, value, None], InvalidLamps, value)
            bent = [base + [[]], base + base[:1], tuple(base), None, [tuple(lamps) for lamps in base] or 0, [piece]]
            bent.extend([base[1:], [[] for _ in base], base[:1] * (len(base) + 1)] if base else [])
            for value in bent:
                if value != base:
                    self.refuses(by_planes, [net, piece, setting, pairs, value], InvalidLamps, value)

    def refuses(self, function, arguments, error, value):
        with self.assertRaises(error) as held:
            function(*arguments)
        self.assertIs(held.exception.value, value)

    def test_still_settings_by_sign(self):
        seen = set()
        for net, piece, setting in each_piece():
            still = [now for now in piece_settings(piece, setting) if own_still(net, piece, now)]
            own = own_by_sign(net, piece, still)
            self.assertEqual(frozen(still_by_sign(net, piece, setting)), frozen(own))
            seen.add((own[0] > 0, own[1] > 0))
            odd = [lot for lot in all_lots(piece) if not any(own_meets(net.ties(), lot, [lamp]) for lamp in piece)
                   and (len(lot) + len([tie for tie in net.ties() if tie[0] in lot and tie[1] in lot])) % 2]
            self.assertIs(bool(odd) and bool(still), own[0] > 0 and own[1] > 0)
        self.assertEqual(seen, {(False, False), (False, True), (True, False), (True, True)})

    def test_settings_without_what_the_piece_has_lit(self):
        """Which of the piece's own lamps are lit in the setting means nothing where all settings are counted."""
        net, piece = made_net("abcdest", RING + " as bt ct", "!s !t"), list("abcde")
        for stuck in ([], ["s"], ["t"], ["s", "t"]):
            for function in (by_sign, class_number, classes_by_size, still_by_sign):
                told = {frozen(function(net, piece, sorted(lot + stuck))) for lot in all_lots(piece)}
                self.assertEqual(len(told), 1)


class Marks(unittest.TestCase):
    def test_all_settings_by_marks(self):
        dictionaries = 0
        for net, piece, setting in each_piece():
            for way in all_points(net, piece) if len(piece) < 6 else []:
                points = dict(zip(piece, way))
                for levels in own_heights(net, points, setting):
                    many = collections.Counter(len(own_marked(points, now, levels))
                                               for now in piece_settings(piece, setting))
                    own = {marks: many[marks] for marks in sorted(many)}
                    dictionaries += 1
                    self.assertEqual(frozen(by_marks(net, piece, setting, points, levels)), frozen(own))
                    other_way = {point: levels[point] for point in reversed(list(levels))}
                    self.assertEqual(frozen(by_marks(net, piece, setting, points, other_way)), frozen(own))
                    top = len(levels)
                    self.assertEqual(own, {marks: math.comb(top, marks) * 2 ** (len(piece) - top + 1)
                                           for marks in own})
        self.assertGreater(dictionaries, 300)

    def test_heights_that_do_not_fit(self):
        net, piece = made_net("abcms", "am bm cm bs", "b !s"), ["a", "b", "c", "m"]
        points = {"a": (0, 2), "b": (0, 2), "c": (1, 3), "m": (0, 1)}
        spread = {"a": (0, 2), "c": (0, 2), "b": (1, 3), "m": (0, 1)}
        flat, bent = {0: 0, 1: 0, 2: 0, 3: 0}, {0: 0, 1: 0, 2: 0, 3: 1}
        self.assertEqual(by_marks(net, piece, ["s"], points, flat), {0: 2, 2: 12, 4: 2})
        self.assertEqual(by_marks(net, piece, [], spread, bent), {1: 8, 3: 8})
        for setting, given, levels in (([], points, flat), ([], points, bent), ([], spread, flat),
                                       (["s"], points, bent), (["s"], points, {0: 0, 1: 0, 2: 0}), (["s"], points, {}),
                                       (["s"], points, {**flat, 4: 0}), (["s"], points, {**flat, 0: False}),
                                       (["s"], points, [0, 0, 0, 0]), (["s"], points, None)):
            with self.assertRaises(InvalidHeights) as held:
                by_marks(net, piece, setting, given, levels)
            self.assertIs(held.exception.value, levels)


class Classes(unittest.TestCase):
    def test_sizes_numbers_and_lists_of_classes(self):
        kinds = set()
        for net, piece, setting in each_piece():
            classes = own_classes(net, piece, setting)
            self.assertEqual(frozen(class_number(net, piece, setting)), frozen(len(classes)))
            sizes = collections.Counter(len(settings) for settings in classes)
            self.assertEqual(frozen(classes_by_size(net, piece, setting)),
                             frozen([(size, sizes[size]) for size in sorted(sizes)]))
            for settings in classes:
                for now in settings[:4]:
                    self.assertEqual(frozen(class_size(net, piece, now)), frozen(len(settings)))
            kinds.add(len(sizes))
        self.assertTrue({1, 2, 3} <= kinds)

    def test_whole_nets(self):
        for net in NETS:
            for setting in stuck_settings(net):
                number = math.prod(len(own_classes(net, piece, setting)) for piece in own_net_pieces(net))
                self.assertEqual(frozen(whole_number(net, setting)), frozen(number))
                self.assertEqual(frozen(whole_size(net, setting)), frozen(len(own_reached(net, setting))))

    def test_nets_without_a_free_lamp(self):
        net = made_net("stu", "st", "!s !t !u")
        for setting in all_lots(net.lamps()):
            self.assertEqual(frozen([whole_size(net, setting), whole_number(net, setting)]), frozen([1, 1]))

    def test_a_core_alone_has_three_classes_whatever_its_stuck_lamps(self):
        net, piece = made_net("abcdefs", COMB + " as", "!s"), list("abcdef")
        for setting in ([], ["s"], ["a", "b"], ["c", "s"]):
            self.assertEqual(classes_by_size(net, piece, setting), [(1, 1), (27, 1), (36, 1)])
        self.assertEqual([class_size(net, piece, setting) for setting in ([], ["a"], ["a", "c"])], [1, 36, 27])


if __name__ == "__main__":
    unittest.main()
