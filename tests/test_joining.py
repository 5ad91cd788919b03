"""Points [52] to [57]: joined settings against walks by deeds, papers that others are not, nearest ones."""

import itertools
import random
import unittest

from helpers import (
    RING, all_lots, frozen, made_net, own_free, own_has_points, own_net_pieces, own_reached, own_ready, own_sign,
    own_sum, random_net, small_nets)
from oddlamps.errors import InvalidLamp, InvalidSetting
from oddlamps.joining import (
    helping_lamps, is_nearest_joined, is_why_apart, joined, joined_pieces, joined_with, least_unlike, nearest_joined,
    parting_pieces, why_apart)
from oddlamps.points import all_points
from test_tempers import own_heights, own_marked

NETS = small_nets() + [random_net(seed, 6, 0.4, 0.3) for seed in range(10)] + [
    made_net("abcdest", RING + " as bt ct", "!s !t"), made_net("abxs", "ab xs", "x !s"), made_net("st", "st", "!s !t")]
SMALL = [net for net in NETS if len(net.lamps()) <= 6]


def own_stuck(net, setting):
    return [lamp for lamp in setting if lamp not in own_free(net)]


def own_piece_joined(net, piece, one, other):
    """Tell by a walk whether a piece's lamps can be led to how they are lit in the other setting."""
    aim = sorted([lamp for lamp in one if lamp not in piece] + [lamp for lamp in other if lamp in piece])
    return tuple(aim) in own_reached(net, one, piece)


def own_still(net, piece, setting):
    return not any(own_ready(net.wishes(), net.ties(), setting, lamp) for lamp in piece)


def all_papers(net, one):
    """Return all papers there could be: heights are those by the stuck lamps that are lit in the one."""
    papers = [("stuck", lamp) for lamp in net.lamps()]
    for piece in own_net_pieces(net):
        papers.extend([("still", piece), ("sign", piece)])
        inner = [tie for tie in net.ties() if tie[0] in piece and tie[1] in piece]
        if own_has_points(piece, inner):
            for way in all_points(net, piece):
                points = dict(zip(piece, way))
                papers.extend(("marks", piece, points, levels) for levels in own_heights(net, points, one))
    return papers


def own_paper_holds(net, one, other, paper):
    """Judge a paper of the right form by the words of [54]."""
    if paper[0] == "stuck":
        return paper[1] not in own_free(net) and (paper[1] in one) != (paper[1] in other)
    if own_stuck(net, one) != own_stuck(net, other):
        return False
    piece = paper[1]
    if paper[0] == "still":
        unlike = set(own_sum(one, other)) & set(piece)
        return bool(unlike) and (own_still(net, piece, one) or own_still(net, piece, other))
    if paper[0] == "sign":
        return own_sign(net, piece, one) != own_sign(net, piece, other)
    return len(own_marked(paper[2], one, paper[3])) != len(own_marked(paper[2], other, paper[3]))


class Joined(unittest.TestCase):
    def test_all_pairs_against_walks(self):
        seen = {True: 0, False: 0}
        for net in NETS:
            settings = all_lots(net.lamps())
            for one in settings if len(settings) <= 64 else settings[::5]:
                reached = own_reached(net, one)
                for other in settings:
                    own = tuple(other) in reached
                    self.assertIs(joined(net, one, other), own)
                    seen[own] += 1
        self.assertTrue(seen[True] > 2000 and seen[False] > 10000)

    def test_pieces_that_part_and_that_do_not(self):
        parting = 0
        for net in SMALL:
            settings, pieces = all_lots(net.lamps()), own_net_pieces(net)
            dice = random.Random(len(settings))
            for one in settings[::2]:
                for other in dice.sample(settings, min(16, len(settings))):
                    own = [own_piece_joined(net, piece, one, other) for piece in pieces]
                    self.assertEqual(joined_pieces(net, one, other),
                                     [piece for piece, is_so in zip(pieces, own) if is_so])
                    self.assertEqual(parting_pieces(net, one, other),
                                     [piece for piece, is_so in zip(pieces, own) if not is_so])
                    parting += own.count(False)
        self.assertGreater(parting, 1000)

    def test_unlike_stuck_lamps_part_no_piece(self):
        net = made_net("abs", "ab bs", "!s")
        told = [joined(net, ["a"], ["a", "s"]), joined_pieces(net, ["a"], ["a", "s"]),
                parting_pieces(net, ["a"], ["b", "s"])]
        self.assertEqual(told, [False, [["a", "b"]], []])
        # By the stuck lamps of the one a and b are still when dark; by those of the other one they would not be.
        self.assertEqual([parting_pieces(net, [], ["b", "s"]), joined_pieces(net, ["s"], ["b"])],
                         [[["a", "b"]], [["a", "b"]]])


class Papers(unittest.TestCase):
    def test_told_papers(self):
        words = {}
        for net in NETS:
            settings = all_lots(net.lamps())
            dice = random.Random(len(settings))
            for one in dice.sample(settings, min(32, len(settings))):
                reached = own_reached(net, one)
                for other in dice.sample(settings, min(64, len(settings))):
                    paper = why_apart(net, one, other)
                    self.assertIs(paper is None, tuple(other) in reached)
                    self.assertIs(is_why_apart(net, one, other, paper), paper is not None)
                    if paper is not None:
                        self.assertTrue(own_paper_holds(net, one, other, paper))
                        words[paper[0]] = words.get(paper[0], 0) + 1
                        self.check_bent(net, one, other, paper)
        self.assertEqual(sorted(words), ["marks", "sign", "still", "stuck"])
        self.assertGreater(min(words.values()), 50)

    def check_bent(self, net, one, other, paper):
        values = [list(paper), paper[1:], paper[:-1], paper + (None,), ("Still",) + paper[1:], (None,) + paper[1:],
                  (paper[0],), (paper[0], None) + paper[2:], (paper[0], [paper[1]]) + paper[2:], paper[::-1], paper[0]]
        if isinstance(paper[1], list):
            values.extend([(paper[0], paper[1][1:]) + paper[2:], (paper[0], tuple(paper[1])) + paper[2:],
                           ("stuck",) + paper[1:], (paper[0], paper[1] + ["z"]) + paper[2:]])
        if paper[0] == "marks":
            piece, points, levels = paper[1:]
            values.extend([paper[:3] + ({**levels, 0: 1 - levels[0]},), paper[:2] + (list(points.items()), levels),
                           paper[:3] + ({point: bool(levels[point]) for point in levels},), paper[:3] + (list(levels),),
                           paper[:2] + ({**points, piece[0]: (0, 99)}, levels), paper[:3] + ({},),
                           paper[:2] + ({lamp: list(points[lamp]) for lamp in points}, levels)])
        for value in values:
            self.assertIs(is_why_apart(net, one, other, value), False, value)

    def test_all_papers_that_hold(self):
        seen = {}
        for net in SMALL:
            settings = all_lots(net.lamps())
            dice = random.Random(len(settings) + 1)
            for one in dice.sample(settings, min(10, len(settings))):
                papers = all_papers(net, one)
                for other in dice.sample(settings, min(10, len(settings))):
                    for paper in papers if len(papers) < 40 else dice.sample(papers, 40):
                        own = own_paper_holds(net, one, other, paper)
                        self.assertIs(is_why_apart(net, one, other, paper), own)
                        if own:
                            self.assertIs(joined(net, one, other), False)
                        seen[paper[0], own] = seen.get((paper[0], own), 0) + 1
        self.assertEqual(len(seen), 8)
        self.assertGreater(min(seen.values()), 20)

    def test_papers_of_other_lengths(self):
        net = made_net("abst", "ab bs", "!s !t")
        for value in (("stuck", "s", None, None), ("stuck", "s", {}, {}), ("stuck", "s", "t"), ("stuck", "s", "s", "s"),
                      (), ("stuck",), ("s", "stuck")):
            self.assertIs(is_why_apart(net, ["s"], [], value), False)
        for value in (("still", ["a", "b"], {}, {}), ("sign", ["a", "b"], {}, {}), ("marks", ["a", "b"])):
            self.assertIs(is_why_apart(net, [], ["a"], value), False)
        self.assertIs(is_why_apart(net, ["s"], [], ("stuck", "s")), True)

    def test_keys_of_points_and_heights_in_any_order(self):
        net = made_net("abc", "ab bc", "a")
        paper = why_apart(net, ["a"], ["a", "c"])
        self.assertEqual(paper[0], "marks")
        turned = paper[:2] + tuple({key: told[key] for key in reversed(list(told))} for told in paper[2:])
        self.assertIs(is_why_apart(net, ["a"], ["a", "c"], turned), True)
        other_way = paper[:3] + ({point: 1 - paper[3][point] for point in paper[3]},)
        self.assertIs(is_why_apart(net, ["a"], ["a", "c"], other_way), True)

    def test_papers_of_stuck_lamps_alone_where_stuck_lamps_differ(self):
        net = made_net("abst", "ab bs", "!s !t")
        for one, other in (([], ["a", "t"]), (["s"], ["a"]), (["a", "s", "t"], [])):
            for paper in all_papers(net, one):
                unlike = (paper[1] in one) != (paper[1] in other) if paper[0] == "stuck" else False
                self.assertIs(is_why_apart(net, one, other, paper), unlike and paper[1] in ("s", "t"))


class Nearest(unittest.TestCase):
    def test_against_all_settings_of_the_class(self):
        for net in SMALL:
            settings = all_lots(net.lamps())
            dice = random.Random(len(settings))
            for one in dice.sample(settings, min(12, len(settings))):
                reached = [list(now) for now in own_reached(net, one)]
                for other in dice.sample(settings, min(12, len(settings))):
                    least = min(len(own_sum(now, other)) for now in reached)
                    self.assertEqual(frozen(least_unlike(net, one, other)), frozen(least))
                    told = nearest_joined(net, one, other)
                    self.assertIn(told, reached)
                    self.assertEqual(len(own_sum(told, other)), least)
                    self.assertIs(least == 0, joined(net, one, other))
                    for value in settings[::3] + [told]:
                        right = value in reached and len(own_sum(value, other)) == least
                        self.assertIs(is_nearest_joined(net, one, other, value), right)
                    for value in (tuple(told), told + ["a"], told[::-1] if len(told) > 1 else None, [told], "a"):
                        self.assertIs(is_nearest_joined(net, one, other, value), False)


class Stuck(unittest.TestCase):
    def test_stuck_lamps_that_help(self):
        helped = 0
        for net in SMALL:
            settings, stuck = all_lots(net.lamps()), own_stuck(net, net.lamps())
            dice = random.Random(len(settings))
            for one in dice.sample(settings, min(16, len(settings))) if stuck else []:
                with_lamp = {lamp: own_reached(net, own_sum(one, [lamp])) for lamp in stuck}
                for other in settings:
                    own = [lamp for lamp in stuck if tuple(own_sum(other, [lamp])) in with_lamp[lamp]]
                    self.assertEqual(helping_lamps(net, one, other), own)
                    helped += bool(own) and not joined(net, one, other)
                    for lamp in stuck:
                        self.assertIs(joined_with(net, one, other, lamp), lamp in own)
        self.assertGreater(helped, 20)

    def test_lamps_that_are_not_stuck_are_refused(self):
        net = made_net("abs", "ab bs", "!s")
        for lamp in ("a", "b", "z", None, ["s"], ("s",), True, ""):
            for one, other in itertools.product(([], ["a"]), repeat=2):
                with self.assertRaises(InvalidLamp) as held:
                    joined_with(net, one, other, lamp)
                self.assertIs(held.exception.value, lamp)
            with self.assertRaises(InvalidSetting) as held:
                joined_with(net, ["a"], ["z"], lamp)
            self.assertEqual(held.exception.value, ["z"])


if __name__ == "__main__":
    unittest.main()
