"""Points [28] to [30]: turns, signs, and what stuck lamps change."""

import unittest

from helpers import (
    all_lots, frozen, own_free, own_near, own_net_pieces, own_ready, own_sign, own_sum, own_turn, random_net,
    small_nets)
from oddlamps.errors import InvalidLamp
from oddlamps.settings import is_ready, ready_lamps, switched
from oddlamps.signs import alike_stuck, sign, sign_with, signs, turn, turned_by, turns

NETS = small_nets() + [random_net(seed, 7, 0.4, 0.4) for seed in range(12)]
FEW = [net for net in NETS if len(net.lamps()) <= 6]


def each_setting(nets):
    for net in nets:
        for setting in all_lots(net.lamps()):
            yield net, setting


class Turns(unittest.TestCase):
    def test_turns_against_counting_and_readiness(self):
        for net, setting in each_setting(NETS):
            own = {lamp: own_turn(net, setting, lamp) for lamp in own_free(net)}
            self.assertEqual(frozen(turns(net, setting)), frozen(own))
            for lamp in own:
                self.assertEqual(frozen(turn(net, setting, lamp)), frozen(own[lamp]))
                lit = [near for near in own_near(net.ties(), lamp) if near in setting and near in own]
                self.assertIs(is_ready(net, setting, lamp), (len(lit) + own[lamp]) % 2 == 1)
                self.assertIs(own_ready(net.wishes(), net.ties(), setting, lamp), (len(lit) + own[lamp]) % 2 == 1)

    def test_turned_by_against_turns_lit_and_dark(self):
        turned = 0
        for net in NETS:
            stuck = [lamp for lamp in net.lamps() if lamp not in own_free(net)]
            for lamp in stuck:
                told = turned_by(net, lamp)
                for setting in all_lots(net.lamps())[::9]:
                    here, there = turns(net, setting), turns(net, own_sum(setting, [lamp]))
                    self.assertEqual([free for free in here if here[free] != there[free]], told)
                turned += len(told)
            for lamp in own_free(net) + ["nolamp", None, [lamp for lamp in stuck]]:
                with self.assertRaises(InvalidLamp) as held:
                    turned_by(net, lamp)
                self.assertIs(held.exception.value, lamp)
            for lamp in stuck:
                with self.assertRaises(InvalidLamp) as held:
                    turn(net, [], lamp)
                self.assertIs(held.exception.value, lamp)
        self.assertGreater(turned, 10)

    def test_alike_stuck(self):
        seen = {True: 0, False: 0}
        for net in FEW:
            settings = all_lots(net.lamps())
            free = own_free(net)
            for one in settings[::3]:
                for other in settings[::5]:
                    alike = [own_turn(net, one, lamp) for lamp in free] == [own_turn(net, other, lamp) for lamp in free]
                    self.assertIs(alike_stuck(net, one, other), alike)
                    seen[alike] += 1
        self.assertTrue(seen[True] > 100 and seen[False] > 20)

    def test_stuck_lamps_that_turn_nothing_or_the_same(self):
        net = random_net(3, 5, 1, 0)
        lamps = net.lamps()
        wishes = {**net.wishes(), "s": "stuck", "t": "stuck", "u": "stuck"}
        ties = net.ties() + [("a", "s"), ("a", "t"), ("t", "u")]
        more = type(net)(lamps + ["s", "t", "u"], ties, wishes)
        for one, other, alike in (([], ["u"], True), (["s"], ["t"], True), (["s", "t"], ["u"], True),
                                  (["s"], [], False), (["a", "s", "u"], ["b", "t"], True), (["a"], ["s"], False)):
            self.assertIs(alike_stuck(more, one, other), alike)
        self.assertEqual([turned_by(more, lamp) for lamp in ("s", "t", "u")], [["a"], ["a"], []])


class Signs(unittest.TestCase):
    def test_signs_against_counting(self):
        for net, setting in each_setting(NETS):
            pieces = own_net_pieces(net)
            own = [own_sign(net, piece, setting) for piece in pieces]
            self.assertEqual(frozen(signs(net, setting)), frozen(own))
            for piece, told in zip(pieces, own):
                self.assertEqual(frozen(sign(net, piece, setting)), frozen(told))

    def test_no_deed_changes_a_sign(self):
        deeds = 0
        for net, setting in each_setting(NETS):
            for lamp in ready_lamps(net, setting):
                self.assertEqual(signs(net, switched(net, setting, lamp)), signs(net, setting))
                deeds += 1
        self.assertGreater(deeds, 1000)

    def test_deeds_that_are_none_change_the_sign(self):
        """A lamp that is not ready changes the sign of its piece."""
        for net, setting in each_setting(FEW):
            for piece in own_net_pieces(net):
                for lamp in piece:
                    if lamp not in ready_lamps(net, setting):
                        self.assertNotEqual(sign(net, piece, own_sum(setting, [lamp])), sign(net, piece, setting))

    def test_sign_with(self):
        for net, setting in each_setting(FEW):
            for piece in own_net_pieces(net):
                for some in all_lots(piece):
                    told = sign_with(net, piece, setting, some)
                    self.assertEqual(frozen(told), frozen(own_sign(net, piece, own_sum(setting, some))))


if __name__ == "__main__":
    unittest.main()
