"""Points [71] to [77]: shows, papers that bar them, most of a show, weights and numbers, against ALL of a class."""

import itertools
import random
import unittest

from helpers import (
    COMB, RING, all_lots, frozen, made_net, own_free, own_net_pieces, own_reached, own_ready, own_sign, random_net,
    small_nets)
from oddlamps.errors import InvalidLamps, InvalidShow, InvalidWeights
from oddlamps.points import all_points
from oddlamps.seen import (
    all_together, can_show, is_lightest, is_most_told, is_show, is_shown, is_so, is_why_dark, least_weight, lightest,
    lit_numbers, many_shown, most_told, shown, why_dark)
from test_tempers import own_heights, own_marked

NETS = small_nets() + [random_net(seed, 6, 0.4, 0.3) for seed in range(10)] + [
    made_net("abcdest", RING + " as bt ct", "!s !t"), made_net("abxys", "ab xy bs", "x !s"),
    made_net("st", "st", "!s !t")]
SMALL = [net for net in NETS if len(net.lamps()) <= 6]


def own_so(show, setting):
    lit, dark = show
    return set(lit) <= set(setting) and not set(dark) & set(setting)


def own_class(net, setting):
    return [list(now) for now in own_reached(net, setting)]


def all_shows(lamps):
    """Return ALL shows of some lamps."""
    return [([lamp for lamp, word in zip(lamps, words) if word == 1],
             [lamp for lamp, word in zip(lamps, words) if word == 2])
            for words in itertools.product((0, 1, 2), repeat=len(lamps))]


def drawn_shows(net, dice, many):
    """Return shows drawn at random, of few lamps and of many, the empty one, full ones, and those of stuck lamps."""
    lamps = net.lamps()
    stuck = [lamp for lamp in lamps if lamp not in own_free(net)]
    shows = [([], []), (lamps, []), ([], lamps), (stuck, []), ([], stuck)]
    for at in range(many):
        words = {lamp: dice.choice((0, 1, 2)[at % 3 > 1:]) for lamp in lamps}
        if at % 3 == 0:
            words = {lamp: dice.choice((0, 0, words[lamp])) for lamp in lamps}
        shows.append(([lamp for lamp in lamps if words[lamp] == 1], [lamp for lamp in lamps if words[lamp] == 2]))
    return shows


def drawn_settings(net, dice, many):
    settings = all_lots(net.lamps())
    return dice.sample(settings, min(many, len(settings)))


def own_still(net, piece, setting):
    return not any(own_ready(net.wishes(), net.ties(), setting, lamp) for lamp in piece)


class OwnBars:
    """Bars of a show by the words of [74], told by ALL settings of a piece that are so."""

    def __init__(self, net, setting):
        self.net, self.setting = net, setting
        self.still = {tuple(piece): own_still(net, piece, setting) for piece in own_net_pieces(net)}
        self.even = {}
        for piece in own_net_pieces(net):
            ways = [dict(zip(piece, way)) for way in all_points(net, piece)]
            told = [(points, levels) for points in ways for levels in own_heights(net, points, setting)]
            self.even[tuple(piece)] = told

    def settings_so(self, piece, show):
        others = [lamp for lamp in self.setting if lamp not in piece]
        told = tuple([lamp for lamp in lamps if lamp in piece] for lamps in show)
        return [sorted(others + lot) for lot in all_lots(piece) if own_so(told, lot)]

    def by_word(self, word, piece, show):
        """Tell whether ("still", piece) or ("sign", piece) holds."""
        still, even = self.still[tuple(piece)], self.even[tuple(piece)]
        if word == "still":
            return still and self.setting not in self.settings_so(piece, show)
        own = own_sign(self.net, piece, self.setting)
        return not still and not even and all(
            own_sign(self.net, piece, now) != own for now in self.settings_so(piece, show)
            if not own_still(self.net, piece, now))

    def by_marks(self, piece, show, points, levels):
        """Return the least and the most marks where a paper with these points and heights holds, otherwise None."""
        if self.still[tuple(piece)]:
            return None
        marks = {len(own_marked(points, now, levels)) for now in self.settings_so(piece, show)}
        assert sorted(marks) == list(range(min(marks), max(marks) + 1, 2))
        return None if len(own_marked(points, self.setting, levels)) in marks else (min(marks), max(marks))

    def papers(self, show):
        """Return ALL papers there could be, each with whether it holds."""
        lit, dark = show
        told = [(("stuck", lamp), lamp not in own_free(self.net) and lamp in (dark if lamp in self.setting else lit))
                for lamp in self.net.lamps()]
        for piece in own_net_pieces(self.net):
            told.extend(((word, piece), self.by_word(word, piece, show)) for word in ("still", "sign"))
            for points, levels in self.even[tuple(piece)]:
                reach = self.by_marks(piece, show, points, levels)
                marks = {len(own_marked(points, now, levels)) for now in self.settings_so(piece, show)}
                told.append((("marks", piece, points, levels, min(marks), max(marks)), reach is not None))
        return told


class Shows(unittest.TestCase):
    def test_all_settings_of_a_class(self):
        dice, seen = random.Random(1), {True: 0, False: 0}
        for net in NETS:
            for one in drawn_settings(net, dice, 12):
                settings = own_class(net, one)
                for show in drawn_shows(net, dice, 12):
                    so = [now for now in settings if own_so(show, now)]
                    self.assertIs(is_so(net, one, show), own_so(show, one))
                    self.assertEqual(frozen(many_shown(net, one, show)), frozen(len(so)))
                    self.assertIs(can_show(net, one, show), bool(so))
                    told = shown(net, one, show)
                    self.assertIn(told, so or [None])
                    self.assertIs(is_shown(net, one, show, told), bool(so))
                    self.judge(net, one, show, so, settings + drawn_settings(net, dice, 6))
                    seen[bool(so)] += 1
        self.assertTrue(seen[True] > 500 and seen[False] > 500)

    def judge(self, net, one, show, so, settings):
        for value in settings[::5]:
            self.assertIs(is_shown(net, one, show, value), value in so)
            for bent in (tuple(value), value + ["a", "a"], value[::-1] if len(value) > 1 else None, [value], "a"):
                self.assertIs(is_shown(net, one, show, bent), False)

    def test_all_shows_of_a_class(self):
        for net, one in ((made_net("abcd", "ab bc cd", "b"), ["a"]), (made_net("abcs", "ab bc bs", "!s"), ["b", "s"]),
                         (made_net("abxy", "ab xy", "x"), ["a"]), (made_net("abcde", RING, "a"), []),
                         (made_net("abcdef", COMB), ["a"]), (made_net("abcdef", COMB), ["a", "c"])):
            settings = own_class(net, one)
            shows = all_shows(net.lamps())
            for show in shows if len(shows) < 250 else shows[::3]:
                self.assertEqual(many_shown(net, one, show), len([now for now in settings if own_so(show, now)]))

    def test_the_empty_show_tells_the_size_of_the_class(self):
        dice = random.Random(2)
        for net in NETS:
            for one in drawn_settings(net, dice, 4):
                self.assertEqual(many_shown(net, one, ([], [])), len(own_class(net, one)))

    def test_what_is_a_show(self):
        net = made_net("abs", "ab bs", "!s")
        for show in all_shows(net.lamps()):
            self.assertIs(is_show(net, show), True)
            self.assertIs(is_so(net, show[0], show), True)
        for value in ((["b", "a"], []), (["a"], ["a"]), (["a", "a"], []), (["z"], []), (["a"],), ["a"], [["a"], []],
                      (["a"], ()), ((), ["a"]), (["a"], [], []), (["a"], None), None, (["a", "s"], ["s"]), "as"):
            self.assertIs(is_show(net, value), False)
            for function in (is_so, can_show, shown, many_shown, why_dark, most_told):
                with self.assertRaises(InvalidShow) as held:
                    function(net, ["a"], value)
                self.assertIs(held.exception.value, value)


class Papers(unittest.TestCase):
    def test_told_papers(self):
        dice, words = random.Random(3), {}
        for net in NETS:
            for one in drawn_settings(net, dice, 12):
                settings = own_class(net, one)
                for show in drawn_shows(net, dice, 9):
                    paper = why_dark(net, one, show)
                    self.assertIs(paper is None, any(own_so(show, now) for now in settings))
                    self.assertIs(is_why_dark(net, one, show, paper), paper is not None)
                    if paper is not None:
                        words[paper[0]] = words.get(paper[0], 0) + 1
                        self.check_bent(net, one, show, paper)
        self.assertEqual(sorted(words), ["marks", "sign", "still", "stuck"])
        self.assertGreater(min(words.values()), 20)

    def check_bent(self, net, one, show, paper):
        values = [list(paper), paper[1:], paper[:-1], paper + (None,), ("Still",) + paper[1:], (None,) + paper[1:],
                  (paper[0],), (paper[0], None) + paper[2:], (paper[0], [paper[1]]) + paper[2:], paper[::-1], paper[0]]
        if isinstance(paper[1], list):
            values.extend([(paper[0], paper[1][1:]) + paper[2:], (paper[0], tuple(paper[1])) + paper[2:],
                           ("stuck",) + paper[1:], (paper[0], paper[1] + ["z"]) + paper[2:]])
            values.extend((word,) + paper[1:] for word in ("still", "sign", "marks") if word != paper[0])
        if paper[0] == "marks":
            points, levels, least, most = paper[2:]
            reach = [(least - 1, most), (least + 1, most), (least, most - 1), (least, most + 1), (str(least), most),
                     (least, None), (most + 1, least), (bool(least), bool(most)), (-1, -1), (least - 2, most + 2),
                     (bool(least), most), (least, bool(most))]
            values.extend(paper[:4] + told for told in reach)
            bent = [{**levels, 0: 1 - levels[0]}, list(levels.values()), {}, {**levels, len(levels): 0}, None]
            values.extend(paper[:3] + (told, least, most) for told in bent)
            bent = [{**points, paper[1][0]: (0, 99)}, {lamp: list(points[lamp]) for lamp in points}, None, {}]
            values.extend(paper[:2] + (told,) + paper[3:] for told in bent)
            values.append(paper[:2])
        for value in values:
            self.assertIs(is_why_dark(net, one, show, value), False, value)

    def test_all_papers_that_hold(self):
        dice, seen = random.Random(4), {}
        for net in SMALL:
            for one in drawn_settings(net, dice, 8):
                bars = OwnBars(net, one)
                for show in drawn_shows(net, dice, 4):
                    papers = bars.papers(show)
                    for paper, holds in papers if len(papers) < 30 else dice.sample(papers, 30):
                        self.assertIs(is_why_dark(net, one, show, paper), holds, (one, show, paper))
                        seen[paper[0], holds] = seen.get((paper[0], holds), 0) + 1
                        if holds:
                            self.assertIs(can_show(net, one, show), False)
        self.assertEqual(len(seen), 8)
        self.assertGreater(min(seen.values()), 20)

    def test_papers_of_other_lengths(self):
        net = made_net("abst", "ab bs", "!s !t")
        show = ([], ["s", "t"])
        self.assertIs(is_why_dark(net, ["s"], show, ("stuck", "s")), True)
        for value in (("stuck", "s", None, None, None, None), ("stuck", "s", {}, {}, 0, 0), ("stuck", "s", "s"),
                      ("stuck", "s", 0, 0), ("stuck",), (), ("stuck", "t"), ("stuck", "a"), ("s", "stuck")):
            self.assertIs(is_why_dark(net, ["s"], show, value), False)
        points, levels = {"a": (0, 1), "b": (1, 2)}, {0: 0, 1: 0, 2: 0}
        told = ["a", "b"], points, levels, 2, 2
        self.assertEqual([is_why_dark(net, [], (["a"], ["b"]), (word, *told)) for word in ("still", "sign", "marks")],
                         [False] * 3)
        self.assertIs(is_why_dark(net, [], (["a"], ["b"]), ("still", ["a", "b"])), True)

    def test_counts_that_are_true_or_false(self):
        piece, points = list("abcd"), {"a": (0, 1), "b": (1, 2), "c": (2, 3), "d": (3, 4)}
        flat = {point: 0 for point in range(5)}
        for wish, one, levels, marks in (("", ["a"], flat, 0), ("a", ["b"], {**flat, 0: 1}, 1)):
            net, show = made_net("abcd", "ab bc cd", wish), ([], piece)
            told = ("marks", piece, points, levels)
            self.assertIs(is_why_dark(net, one, show, told + (marks, marks)), True)
            for least, most in ((bool(marks), marks), (marks, bool(marks)), (bool(marks), bool(marks)), (None, marks),
                                (marks, None), (str(marks), marks), (marks, [marks]), (marks - 1, marks - 1)):
                self.assertIs(is_why_dark(net, one, show, told + (least, most)), False)

    def test_heights_turned_about_and_keys_in_any_order(self):
        net = made_net("abc", "ab bc", "a")
        one, show = ["a"], (["a", "c"], ["b"])
        paper = why_dark(net, one, show)
        self.assertEqual(paper[0], "marks")
        piece, points, levels, least, most = paper[1:]
        top = len(levels)
        turned = {point: 1 - levels[point] for point in reversed(list(levels))}
        self.assertIs(is_why_dark(net, one, show, ("marks", piece, points, turned, top - most, top - least)), True)
        self.assertIs(is_why_dark(net, one, show, ("marks", piece, points, turned, least, most)), least + most == top)
        other_way = {lamp: points[lamp] for lamp in reversed(list(points))}
        self.assertIs(is_why_dark(net, one, show, ("marks", piece, other_way) + paper[3:]), True)


class Together(unittest.TestCase):
    def test_lamps_that_can_be_lit_together(self):
        dice = random.Random(5)
        for net in SMALL:
            for one in drawn_settings(net, dice, 6):
                settings = own_class(net, one)
                for lamps in all_lots(net.lamps()):
                    self.assertIs(all_together(net, one, lamps), any(set(lamps) <= set(now) for now in settings))
                for lamps in (["b", "a"], ["z"], ("a",), None, ["a", "a"]):
                    with self.assertRaises(InvalidLamps) as held:
                        all_together(net, one, lamps)
                    self.assertIs(held.exception.value, lamps)
        self.assertIs(all_together(made_net("ab", "ab"), ["a"], []), True)

    def test_a_free_lamp_can_change_just_where_its_piece_is_not_still(self):
        dice = random.Random(6)
        for net in NETS:
            for one in drawn_settings(net, dice, 6):
                for piece in own_net_pieces(net):
                    still = own_still(net, piece, one)
                    for lamp in piece:
                        both = can_show(net, one, ([lamp], [])) and can_show(net, one, ([], [lamp]))
                        self.assertIs(both, not still)

    def test_the_most_of_a_show_by_all_its_parts(self):
        dice, less = random.Random(7), 0
        for net in SMALL:
            for one in drawn_settings(net, dice, 6):
                settings = own_class(net, one)
                for show in drawn_shows(net, dice, 3):
                    lit, dark = show
                    parts = [(some, others) for some in all_lots(lit) for others in all_lots(dark)]
                    so = [part for part in parts if any(own_so(part, now) for now in settings)]
                    most = max(len(some) + len(others) for some, others in so)
                    best = [part for part in so if len(part[0]) + len(part[1]) == most]
                    told = most_told(net, one, show)
                    self.assertIn(told, best)
                    less += most < len(lit) + len(dark)
                    for part in parts if len(parts) < 20 else dice.sample(parts, 20):
                        self.assertIs(is_most_told(net, one, show, part), part in best)
                    self.bend(net, one, show, told, dice)
        self.assertGreater(less, 100)

    def bend(self, net, one, show, told, dice):
        others = [lamp for lamp in net.lamps() if lamp not in show[0] + show[1]]
        values = [list(told), told + ([],), told[:1], None, (told[0], tuple(told[1])), (told[0] + ["z"], told[1])]
        values.extend((sorted(told[0] + [lamp]), told[1]) for lamp in others)
        values.extend((told[0][:-1], sorted(told[1] + [lamp])) for lamp in others[:1])
        if told[0] != told[1]:
            values.append(told[::-1])
        for value in values:
            self.assertIs(is_most_told(net, one, show, value), False)


class Weights(unittest.TestCase):
    def drawn_weights(self, net, dice):
        free = own_free(net)
        return [{lamp: dice.randint(-4, 4) for lamp in free}, {lamp: 7 for lamp in reversed(free)},
                {lamp: -3 for lamp in free}, {lamp: 0 for lamp in free},
                {lamp: dice.choice((-1, 1)) * 10 ** 9 + at for at, lamp in enumerate(free)}]

    def test_least_weights(self):
        dice = random.Random(8)
        for net in NETS:
            for one in drawn_settings(net, dice, 6):
                settings = own_class(net, one)
                for weights in self.drawn_weights(net, dice):
                    weigh = {tuple(now): sum(weights.get(lamp, 0) for lamp in now) for now in settings}
                    least = min(weigh.values())
                    self.assertEqual(frozen(least_weight(net, one, weights)), frozen(least))
                    told = lightest(net, one, weights)
                    self.assertEqual(weigh[tuple(told)], least)
                    for value in settings[::3] + drawn_settings(net, dice, 4) + [told]:
                        right = weigh.get(tuple(value)) == least
                        self.assertIs(is_lightest(net, one, weights, value), right)
                    for value in (tuple(told), told + ["a", "a"], told[::-1] if len(told) > 1 else None, [told], "a"):
                        self.assertIs(is_lightest(net, one, weights, value), False)

    def test_stuck_lamps_have_no_weight(self):
        net = made_net("abs", "ab bs", "!s")
        self.assertEqual([least_weight(net, ["b", "s"], {"a": 3, "b": 5}), lightest(net, ["b", "s"], {"a": 3, "b": 5})],
                         [0, ["s"]])
        for weights in ({"a": 3, "b": 5, "s": 1}, {"a": 3}, {"a": 3, "s": 5}, {"a": 3, "b": True}, {}, [3, 5], None):
            for function in (least_weight, lightest):
                with self.assertRaises(InvalidWeights) as held:
                    function(net, ["a", "s"], weights)
                self.assertIs(held.exception.value, weights)
        stuck = made_net("st", "st", "!s !t")
        self.assertEqual([least_weight(stuck, ["s"], {}), lightest(stuck, ["s"], {}), lit_numbers(stuck, ["s"])],
                         [0, ["s"], [1]])

    def test_numbers_of_lit_lamps(self):
        dice = random.Random(9)
        for net in NETS:
            for one in drawn_settings(net, dice, 16):
                own = sorted({len(now) for now in own_class(net, one)})
                self.assertEqual(frozen(lit_numbers(net, one)), frozen(own))


if __name__ == "__main__":
    unittest.main()
