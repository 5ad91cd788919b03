"""Point [3] for numbers, seen, families and changes: calls at the limits answer, and a little beyond them, too."""

import math
import random
import unittest

from great import NAMES, great_pieces, great_tuples, net_of_tuples, random_great, timed
from helpers import Net, made_net, own_net_pieces, own_sum, random_walk
from oddlamps.changes import (
    changed, changed_by, keeps_paired, kinds_changed, linking_ties, needed_ties, parting_lots, setting_along,
    tie_sets_number)
from oddlamps.families import (
    comb_net, fork, forms, full_net, in_order, is_fork, is_in_order, is_tree, kind_by_forms, ladder_net, ring_net,
    row_net, shorn, star_net, wheel_net)
from oddlamps.joining import joined
from oddlamps.lists import idle_base, planes
from oddlamps.nets import side_by_side
from oddlamps.numbers import (
    by_marks, by_planes, by_sign, class_number, class_size, classes_by_size, still_by_sign, whole_number, whole_size)
from oddlamps.seen import (
    all_together, can_show, is_lightest, is_most_told, is_shown, is_so, is_why_dark, least_weight, lightest,
    lit_numbers, many_shown, most_told, shown, why_dark)
from oddlamps.tempers import heights
from test_limits_joining import any_setting, free_nets


def any_show(lamps, dice, share):
    """Return a show in which about such a share of some lamps is told."""
    told = [lamp for lamp in lamps if dice.random() < share]
    lit = [lamp for lamp in told if dice.random() < 0.5]
    return lit, [lamp for lamp in told if lamp not in lit]


class Numbers(unittest.TestCase):
    def test_sizes_of_all_classes_together_are_all_settings(self):
        dice, kinds = random.Random(1), set()
        for net, piece in great_pieces():
            setting, many = any_setting(net, dice), 2 ** len(piece)
            signs = timed(self, by_sign, net, piece, setting)
            pairs, base = planes(net, piece), idle_base(net, piece)
            self.assertEqual(timed(self, by_planes, net, piece, setting, pairs[::-1], base[::-1]), signs)
            still = timed(self, still_by_sign, net, piece, setting)
            classes = timed(self, classes_by_size, net, piece, setting)
            number = timed(self, class_number, net, piece, setting)
            self.assertEqual([sum(signs), sum(size * many for size, many in classes)], [many, many])
            self.assertEqual(number, sum(many for _, many in classes))
            self.assertGreaterEqual(number, sum(still))
            self.assertIn(timed(self, class_size, net, piece, setting), [size for size, _ in classes])
            kinds.add(len(classes))
            self.assertEqual(timed(self, whole_number, net, setting), number)
            self.assertEqual(timed(self, whole_size, net, setting), class_size(net, piece, setting))
        self.assertTrue({1, 2, 3} <= kinds)

    def test_marks_of_great_pieces(self):
        dice, told = random.Random(2), 0
        for many in (24, 27):
            for tuples in great_tuples(many):
                net, piece = net_of_tuples(tuples, 40 - many)
                points, setting = dict(zip(piece, tuples)), any_setting(net, dice)
                levels = heights(net, piece, points, setting)
                if levels is not None:
                    numbers = timed(self, by_marks, net, piece, setting, points, levels)
                    self.assertEqual(sum(numbers.values()), 2 ** many)
                    sizes = [size for marks, size in numbers.items() if 0 < marks < len(levels)]
                    classes = [(size, count) for size, count in classes_by_size(net, piece, setting) if size > 1]
                    self.assertEqual(sum(size * count for size, count in classes), sum(sizes))
                    told += 1
        self.assertGreater(told, 5)

    def test_nets_of_many_pieces(self):
        lamps = NAMES[:40]
        dark = Net(lamps, [], {lamp: "odd" for lamp in lamps})
        bright = Net(lamps, [], {lamp: "even" for lamp in lamps})
        self.assertEqual([timed(self, whole_size, dark, []), timed(self, whole_number, dark, [])], [1, 2 ** 40])
        self.assertEqual([timed(self, whole_size, bright, []), timed(self, whole_number, bright, [])], [2 ** 40, 1])
        both = side_by_side(net_of_tuples(great_tuples(24)[0], 4)[0], made_net("klmnop", "kl lm mn no mp"))
        self.assertEqual(timed(self, whole_size, both, ["k"]),
                         math.prod(class_size(both, piece, ["k"]) for piece in own_net_pieces(both)))


class Seen(unittest.TestCase):
    def test_a_lamp_that_is_open_is_lit_or_dark(self):
        """As many settings are so with a lamp open as with it lit and with it dark, down to shows of all lamps."""
        dice, bars = random.Random(3), set()
        for net, _ in great_pieces():
            one = any_setting(net, dice)
            for share in (0, 0.3, 0.7):
                lit, dark = any_show(net.lamps(), dice, share)
                if share < 0.5:
                    lit, dark = [[lamp for lamp in lamps if (lamp in one) == (lamps is lit) or lamp not in NAMES]
                                 for lamps in (lit, dark)]
                many = timed(self, many_shown, net, one, (lit, dark))
                for lamp in dice.sample(net.lamps(), len(net.lamps())):
                    if lamp not in lit + dark:
                        brighter, darker = (sorted(lit + [lamp]), dark), (lit, sorted(dark + [lamp]))
                        with_lit, with_dark = many_shown(net, one, brighter), many_shown(net, one, darker)
                        self.assertEqual(many, with_lit + with_dark)
                        lit, dark, many = max((brighter + (with_lit,), darker + (with_dark,)),
                                              key=lambda told: (told[2] > 0, dice.random()))
                self.assertEqual(many, lit in [one] or joined(net, one, lit))
                bars.add((timed(self, why_dark, net, one, (lit, dark)) or [None])[0])
        self.assertTrue({None, "stuck"} <= bars)

    def test_shows_of_great_nets(self):
        dice, seen = random.Random(4), {}
        for net, piece in great_pieces():
            one = any_setting(net, dice)
            for share in (0, 0.1, 0.5, 1):
                show = any_show(piece if share > 0.1 else net.lamps(), dice, share)
                self.assertEqual(timed(self, is_so, net, one, show), set(show[0]) <= set(one)
                                 and not set(show[1]) & set(one))
                can, found = timed(self, can_show, net, one, show), timed(self, shown, net, one, show)
                paper = timed(self, why_dark, net, one, show)
                self.assertEqual([can, can], [found is not None, paper is None])
                self.assertIs(timed(self, is_shown, net, one, show, found), can)
                self.assertIs(timed(self, is_why_dark, net, one, show, paper), not can)
                seen[paper and paper[0]] = seen.get(paper and paper[0], 0) + 1
                timed(self, all_together, net, one, show[0])
        self.assertTrue(min(seen[word] for word in (None, "stuck", "sign", "marks")) >= 3)

    def test_most_of_twelve_lamps_told_and_of_some_more(self):
        dice, less = random.Random(5), 0
        for net, piece in great_pieces() + [random_great(seed, 12, 0.2, 3) for seed in range(6)]:
            for many in (12, 13):
                one = any_setting(net, dice)
                told = dice.sample(piece, min(many, len(piece)))
                show = (sorted(told[::2]), sorted(told[1::2]))
                most = timed(self, most_told, net, one, show)
                self.assertIs(timed(self, is_most_told, net, one, show, most), True)
                less += most != show
        for tuples in great_tuples(12):
            net, piece = net_of_tuples(tuples, 4)
            one = any_setting(net, dice)
            for show in ((piece, []), ([], piece), (piece[::2], piece[1::2])):
                most = timed(self, most_told, net, one, show)
                self.assertIs(can_show(net, one, most), True)
                less += most != show
        self.assertGreater(less, 10)

    def test_weights_and_numbers_of_twelve_free_lamps_and_one_more(self):
        dice = random.Random(6)
        for net in free_nets(12) + free_nets(13)[::2]:
            one = any_setting(net, dice)
            free = [lamp for lamp, wish in net.wishes().items() if wish != "stuck"]
            weights = {lamp: dice.randint(-10 ** 9, 10 ** 9) for lamp in free}
            least, told = timed(self, least_weight, net, one, weights), timed(self, lightest, net, one, weights)
            self.assertEqual(sum(weights[lamp] for lamp in told if lamp in weights), least)
            self.assertIs(timed(self, is_lightest, net, one, weights, told), True)
            _, behind = random_walk(net, one, 100, dice)
            self.assertLessEqual(least, sum(weights[lamp] for lamp in behind if lamp in weights))
            numbers = timed(self, lit_numbers, net, one)
            self.assertTrue({len(one), len(behind), len(told)} <= set(numbers))
            each = {lamp: 1 for lamp in free}
            self.assertEqual(timed(self, least_weight, net, one, each), numbers[0] - len(set(one) - set(free)))


class Families(unittest.TestCase):
    def test_great_families(self):
        dice = random.Random(7)
        makers = {"row": row_net, "ring": ring_net, "star": star_net, "full": full_net, "wheel": wheel_net,
                  "comb": comb_net, "ladder": ladder_net}
        for many in (8, 10, 24, 40):
            for form, make in makers.items():
                lamps = dice.sample(NAMES, many)
                net, piece = timed(self, make, lamps, {lamp: "odd" for lamp in lamps}), sorted(lamps)
                self.assertIs(timed(self, is_in_order, net, piece, form, lamps), True)
                told = timed(self, in_order, net, piece, form)
                self.assertIs(is_in_order(net, piece, form, told), True)
                self.assertEqual(timed(self, forms, net, piece), [form])
                kind = "paired" if form in ("row", "ring", "star", "full") else "core"
                self.assertEqual(timed(self, kind_by_forms, net, piece), kind)
                self.assertIs(timed(self, is_tree, net, piece), form in ("row", "star", "comb"))

    def test_other_great_pieces(self):
        for many in (8, 9, 24):
            for seed, share in enumerate((0, 0.1, 0.3, 0.6, 0.9)):
                net, piece = random_great(seed + many, many, share)
                timed(self, kind_by_forms, net, piece)
                some, left = timed(self, fork, net, piece), timed(self, shorn, net, piece)
                self.assertIs(timed(self, is_fork, net, piece, some), some is not None)
                self.assertTrue(set(left) <= set(piece))


class Changes(unittest.TestCase):
    def changes(self, net, piece):
        tie, further = [tie for tie in net.ties() if tie[0] in piece and tie[1] in piece][:2]
        return [("put", "new", "even", piece[2:9]), ("untie", *tie), ("wish", piece[5], "stuck"),
                ("untie", *further), ("take", piece[7])]

    def test_four_changes_of_great_nets_and_one_more(self):
        dice = random.Random(8)
        for net, piece in great_pieces():
            one = any_setting(net, dice)
            _, other = random_walk(net, one, 200, dice)
            for many in (4, 5):
                changes = self.changes(net, piece)[:many]
                behind = timed(self, changed_by, net, changes)
                self.assertEqual(timed(self, changed, net, changes[0]).lamps(), sorted(net.lamps() + ["new"]))
                self.assertTrue(set(timed(self, setting_along, net, changes, one)) <= set(behind.lamps()))
                self.assertEqual(len(timed(self, kinds_changed, net, changes)), 2)
                lots = timed(self, parting_lots, net, changes, one, other)
                self.assertEqual(lots, sorted(lots))

    def test_ties_that_are_needed_and_ties_that_link(self):
        dice, linked = random.Random(9), 0
        for net, piece in great_pieces():
            one = any_setting(net, dice)
            _, other = random_walk(net, one, 200, dice)
            for tie in timed(self, needed_ties, net, one, other)[:3]:
                self.assertIs(joined(changed(net, ("untie", *tie)), one, other), False)
            apart = own_sum(one, piece[:1])
            if not joined(net, one, apart):
                ties = timed(self, linking_ties, net, one, apart)
                for tie in ties[:3]:
                    self.assertIs(joined(changed(net, ("tie", *tie)), one, apart), True)
                linked += bool(ties)
        self.assertGreater(linked, 5)

    def test_a_lamp_more(self):
        for net, piece in great_pieces():
            number = timed(self, tie_sets_number, net, piece)
            self.assertIn(timed(self, keeps_paired, net, piece, piece[:1]), (True, False) if number else (False,))


if __name__ == "__main__":
    unittest.main()
