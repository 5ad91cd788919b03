"""Points [31] to [33]: works, what they switch, the roads behind them, and exchanged nets."""

import itertools
import random
import unittest

from helpers import (
    all_lots, frozen, grown_work, made_net, own_free, own_meets, own_near, own_net_pieces, own_reached, own_ready,
    own_sum, own_turn, random_net, random_walk, small_nets)
from oddlamps.errors import InvalidLamp
from oddlamps.settings import is_road, led
from oddlamps.works import deeds_of, exchanged, is_work, setting_exchanged, worked, worked_list

NETS = small_nets() + [random_net(seed, 7, 0.4, 0.3) for seed in range(8)]


def own_work(net, piece, lamp, others):
    """Return the worked list of a work, None if it is none, by the words of [31]."""
    total = [lamp]
    for other in others:
        if not own_meets(net.ties(), [other], total):
            return None
        total = own_sum(total, [other])
    return total


def each_work(net, piece, longest):
    """Go through ALL tuples of a lamp and a list of so many lamps at most."""
    for lamp in piece:
        for many in range(longest + 1):
            for others in itertools.product(piece, repeat=many):
                yield lamp, list(others)


class Works(unittest.TestCase):
    def test_all_short_works(self):
        seen = {True: 0, False: 0}
        for net in NETS:
            for piece in own_net_pieces(net):
                for lamp, others in each_work(net, piece, 3 if len(piece) < 6 else 2):
                    own = own_work(net, piece, lamp, others)
                    seen[own is not None] += 1
                    self.assertIs(is_work(net, piece, (lamp, others)), own is not None)
                    if own is not None:
                        self.assertEqual(worked_list(net, piece, (lamp, others)), own)
                        self.assertTrue(own)
        self.assertTrue(seen[True] > 500 and seen[False] > 500)

    def test_lamps_put_on_and_taken_off_again(self):
        net, piece = made_net("abcd", "ab bc cd"), list("abcd")
        for others, total in (([], "a"), (["b", "b"], "a"), (["b", "a"], "b"), (["b", "c", "c", "b"], "a"),
                              (["b", "c", "d"], "abcd"), (["b", "a", "a"], "ab"), (["b"] * 59, "ab"),
                              (["b"] * 60, "a")):
            self.assertIs(is_work(net, piece, ("a", others)), True)
            self.assertEqual(worked_list(net, piece, ("a", others)), list(total))

    def test_bent_works(self):
        dice, judged = random.Random(1), 0
        for net in NETS:
            for piece in own_net_pieces(net):
                (lamp, others), _ = grown_work(net, piece, 5, dice)
                for at in range(len(others)):
                    for other in net.lamps():
                        bent = others[:at] + [other] + others[at + 1:]
                        right = set(bent) <= set(piece) and own_work(net, piece, lamp, bent) is not None
                        self.assertIs(is_work(net, piece, (lamp, bent)), right)
                        judged += 1
                for other in net.lamps():
                    right = other in piece and own_work(net, piece, other, others) is not None
                    self.assertIs(is_work(net, piece, (other, others)), right)
                for value in ([lamp, others], (lamp, tuple(others)), (others, lamp), (lamp,), (lamp, others, []),
                              (lamp, others + [None]), (lamp, others + ["nolamp"]), ([lamp], others), lamp, others):
                    self.assertIs(is_work(net, piece, value), False)
        self.assertGreater(judged, 200)

    def check_work(self, net, piece, setting, work, total):
        near = {lamp: own_near(net.ties(), lamp) for lamp in total}
        lit = sum(other in setting and other in piece for lamp in total for other in near[lamp])
        up = (lit + sum(own_turn(net, setting, lamp) for lamp in total)) % 2 == 1
        behind = own_sum(setting, total) if up else setting
        self.assertEqual(worked(net, piece, setting, work), behind)
        road, now = [], setting
        for lamp in work[1][::-1] + [work[0]] + work[1]:
            if own_ready(net.wishes(), net.ties(), now, lamp):
                road.append(lamp)
                now = own_sum(now, [lamp])
        self.assertEqual(deeds_of(net, piece, setting, work), road)
        self.assertEqual(now, behind)
        self.assertIs(is_road(net, setting, road), True)
        self.assertEqual(led(net, setting, road), behind)
        return up

    def test_what_works_do(self):
        dice, seen = random.Random(2), {True: 0, False: 0}
        for net in NETS:
            for piece in own_net_pieces(net):
                for _ in range(12):
                    work, total = grown_work(net, piece, dice.choice([0, 1, 2, 5, 12]), dice)
                    self.assertEqual(worked_list(net, piece, work), total)
                    for _ in range(3):
                        setting = [lamp for lamp in net.lamps() if dice.random() < 0.5]
                        seen[self.check_work(net, piece, setting, work, total)] += 1
        self.assertTrue(seen[True] > 200 and seen[False] > 200)

    def test_a_work_of_no_lamp_more_is_a_deed(self):
        for net in NETS:
            for setting in all_lots(net.lamps())[::7]:
                for piece in own_net_pieces(net):
                    for lamp in piece:
                        ready = own_ready(net.wishes(), net.ties(), setting, lamp)
                        self.assertEqual(deeds_of(net, piece, setting, (lamp, [])), [lamp] if ready else [])
                        self.assertEqual(worked(net, piece, setting, (lamp, [])),
                                         own_sum(setting, [lamp] if ready else []))


class Exchanged(unittest.TestCase):
    def each_tie(self):
        for net in NETS + [made_net("abcst", "ab bc as bs at cs", "b c !s !t")]:
            for one, other in net.ties():
                if one in own_free(net) and other in own_free(net):
                    yield net, one, other
                    yield net, other, one

    def test_by_the_words(self):
        for net, lamp, other in self.each_tie():
            told = exchanged(net, lamp, other)
            self.assertEqual(told.lamps(), net.lamps())
            near = set(own_near(net.ties(), lamp)) ^ set(own_near(net.ties(), other))
            self.assertEqual(own_near(told.ties(), lamp), sorted(near - {lamp, other} | {other}))
            self.assertEqual([tie for tie in told.ties() if lamp not in tie],
                             [tie for tie in net.ties() if lamp not in tie])
            wishes = net.wishes()
            wishes[lamp] = "odd" if wishes[lamp] == wishes[other] else "even"
            self.assertEqual(frozen(told.wishes()), frozen(wishes))

    def test_twice(self):
        for net, lamp, other in self.each_tie():
            once = exchanged(net, lamp, other)
            self.assertEqual(frozen(exchanged(once, lamp, other)), frozen(net))
            for setting in all_lots(net.lamps())[::5]:
                there = setting_exchanged(net, lamp, other, setting)
                own = [one for one in setting if one != other] + [other] * ((lamp in setting) != (other in setting))
                self.assertEqual(there, sorted(own))
                self.assertEqual(setting_exchanged(once, lamp, other, there), setting)

    def test_roads_exist_just_where_they_did(self):
        seen = 0
        for net, lamp, other in self.each_tie():
            if len(net.lamps()) > 6:
                continue
            there = exchanged(net, lamp, other)
            for setting in all_lots(net.lamps()):
                here = {tuple(setting_exchanged(net, lamp, other, list(now))) for now in own_reached(net, setting)}
                moved = setting_exchanged(net, lamp, other, setting)
                self.assertEqual(set(own_reached(there, moved)), here)
                seen += 1
        self.assertGreater(seen, 1000)

    def test_lamps_without_a_tie_are_refused(self):
        net = made_net("abcxs", "ab bc bs xs", "!s")
        for function, more in ((exchanged, []), (setting_exchanged, [["a"]]), (setting_exchanged, [None])):
            for lamp, other, told in (("a", "c", "c"), ("a", "a", "a"), ("a", "x", "x"), ("b", "s", "s"),
                                      ("s", "b", "s"), ("q", "b", "q"), ("b", "q", "q"), ("s", None, "s"),
                                      ("b", None, None)):
                with self.assertRaises(InvalidLamp) as held:
                    function(net, lamp, other, *more)
                self.assertIs(held.exception.value, told)

    def test_walks_go_on_behind_an_exchange(self):
        dice = random.Random(4)
        for net, lamp, other in self.each_tie():
            start = [one for one in net.lamps() if dice.random() < 0.5]
            _, behind = random_walk(net, start, 6, dice)
            there = exchanged(net, lamp, other)
            reached = own_reached(there, setting_exchanged(net, lamp, other, start))
            self.assertIn(tuple(setting_exchanged(net, lamp, other, behind)), reached)


if __name__ == "__main__":
    unittest.main()
