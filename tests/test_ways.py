"""Points [58] to [60]: bounds, ways in a piece and in a net, against walks through ALL settings."""

import functools
import operator
import random
import unittest

from great import great_pieces, great_tuples, net_of_tuples, random_great, timed
from helpers import (
    COMB, RING, WHEEL, all_lots, frozen, hanging_shapes, made_net, own_free, own_has_points, own_near, own_net_pieces,
    own_reached, own_sign, own_sum, random_net, random_walk, small_nets)
from oddlamps.cores import kind_of
from oddlamps.errors import InvalidPiece, InvalidSetting, Unlike
from oddlamps.settings import is_road, led
from oddlamps.tempers import temper
from oddlamps.walks import Walk, shortest_roads
from oddlamps.ways import is_piece_way, is_way, piece_bound, piece_way, way_between, way_bound

NETS = small_nets() + [random_net(seed, 6, 0.4, 0.2) for seed in range(10)]


def own_bound(net, piece):
    """Return the bound of [58], with the tests' own search for points."""
    ties = [tie for tie in net.ties() if tie[0] in piece and tie[1] in piece]
    many = len(piece)
    return 3 * many ** 2 if own_has_points(piece, ties) else (many - 6) ** 2 + 10 * (many - 6) + 16


def own_walk(net, setting, road):
    """Return where a list of lamps leads, None if one of them is not ready as its turn comes."""
    wishes, now = net.wishes(), set(setting)
    near = {lamp: set(own_near(net.ties(), lamp)) for lamp in wishes}
    for lamp in road:
        if wishes[lamp] != ("odd" if len(near[lamp] & now) % 2 else "even"):
            return None
        now ^= {lamp}
    return sorted(now)


def in_place_of(piece, one, other):
    """Return the one setting with the lamps of a piece as they are in the other one."""
    return sorted([lamp for lamp in one if lamp not in piece] + [lamp for lamp in other if lamp in piece])


class Bounds(unittest.TestCase):
    def test_bounds_of_pieces_and_nets(self):
        for net in NETS:
            pieces = own_net_pieces(net)
            own = [own_bound(net, piece) for piece in pieces]
            self.assertEqual(frozen([piece_bound(net, piece) for piece in pieces]), frozen(own))
            self.assertEqual(frozen(way_bound(net)), frozen(sum(own)))

    def test_bounds_of_24_lamps(self):
        seen = set()
        for net, piece in great_pieces():
            if len(piece) == 24:
                seen.add((kind_of(net, piece), timed(self, piece_bound, net, piece), timed(self, way_bound, net)))
        self.assertEqual(seen, {("core", 520, 520), ("paired", 1728, 1728)})

    def test_no_free_lamp(self):
        net = made_net("st", "st", "!s !t")
        self.assertEqual([way_bound(net), way_between(net, ["s"], ["s"]), way_between(net, ["s"], [])], [0, [], None])


class Ways(unittest.TestCase):
    def test_ways_between_all_settings(self):
        told = {True: 0, False: 0}
        for net in NETS:
            settings, bound = all_lots(net.lamps()), way_bound(net)
            dice = random.Random(len(settings))
            for one in settings if len(settings) <= 32 else dice.sample(settings, 16):
                reached = own_reached(net, one)
                for other in settings:
                    road = way_between(net, one, other)
                    self.assertIs(road is not None, tuple(other) in reached)
                    told[road is not None] += 1
                    self.assertIs(is_way(net, one, other, road), road is not None)
                    if road is not None:
                        self.assertEqual(own_walk(net, one, road), other)
                        self.assertLessEqual(len(road), bound)
                        self.assertIs(is_way(net, one, other, road + ["a"]), False)
        self.assertTrue(told[True] > 1000 and told[False] > 1000)

    def test_ways_in_a_piece(self):
        """The other pieces may be unlike, or as they are: they stay."""
        told = {True: 0, False: 0}
        for net in NETS:
            settings, pieces = all_lots(net.lamps()), own_net_pieces(net)
            dice = random.Random(len(settings) + 1)
            for piece in pieces:
                for one in dice.sample(settings, min(12, len(settings))):
                    reached = own_reached(net, one, piece)
                    alike = [other for other in settings if not set(own_sum(one, other)) - set(own_free(net))]
                    for other in dice.sample(alike, min(24, len(alike))):
                        aim = in_place_of(piece, one, other)
                        road = piece_way(net, piece, one, other)
                        self.assertIs(road is not None, tuple(aim) in reached)
                        told[road is not None] += 1
                        self.assertIs(is_piece_way(net, piece, one, other, road), road is not None)
                        if road is not None:
                            self.assertTrue(set(road) <= set(piece))
                            self.assertEqual(own_walk(net, one, road), aim)
                            self.assertLessEqual(len(road), own_bound(net, piece))
        self.assertTrue(told[True] > 500 and told[False] > 500)

    def test_ways_with_other_pieces_between(self):
        net = made_net("abxys", "ab xy bs ys", "b x y !s")
        one, other = ["a", "s", "x"], ["a", "b", "s"]
        road = piece_way(net, ["a", "b"], one, other)
        self.assertEqual(led(net, one, road), ["a", "b", "s", "x"])
        self.assertIs(is_way(net, one, other, road), False)
        whole = way_between(net, one, other)
        for value, is_one in ((road, True), (whole, False), (road + ["y", "y"], False), (["y", "y"] + road, False)):
            self.assertIs(is_road(net, one, value), True)
            self.assertIs(is_piece_way(net, ["a", "b"], one, other, value), is_one)
        self.assertIs(is_way(net, one, other, whole), True)
        self.assertIs(is_way(net, one, other, whole + ["x", "x"]), True)

    def test_at_the_bound_and_longer(self):
        for net, piece in ((made_net("ab", "ab"), ["a", "b"]), (made_net("abcdef", COMB), list("abcdef")),
                           (made_net("abcde", RING, "a"), list("abcde"))):
            bound = piece_bound(net, piece)
            for many in (0, 1):
                _, other = random_walk(net, ["a"], many, random.Random(1))
                longer = way_between(net, ["a"], other)
                ready = [lamp for lamp in piece if own_walk(net, other, [lamp]) is not None][0]
                while len(longer) <= bound + 3:
                    fits = len(longer) <= bound
                    self.assertIs(is_road(net, ["a"], longer), True)
                    self.assertIs(is_way(net, ["a"], other, longer), fits)
                    self.assertIs(is_piece_way(net, piece, ["a"], other, longer), fits)
                    longer = longer + [ready, ready]
        self.assertEqual([way_bound(made_net("ab", "ab")), way_bound(made_net("abcdef", COMB)),
                          way_bound(made_net("abxy", "ab xy"))], [12, 16, 24])

    def test_bent_ways(self):
        dice = random.Random(3)
        for net in NETS:
            piece = max(own_net_pieces(net), key=len)
            start = [lamp for lamp in net.lamps() if dice.random() < 0.5]
            _, other = random_walk(net, start, 9, dice)
            road = way_between(net, start, other)
            for at in range(len(road)):
                for bent in (road[:at] + road[at + 1:], road[:at] + road[at:at + 1] + road[at:], road[:at]):
                    own = own_walk(net, start, bent) == other
                    self.assertIs(is_way(net, start, other, bent), own)
                    aimed = own_walk(net, start, bent)
                    own = set(bent) <= set(piece) and aimed == in_place_of(piece, start, other)
                    self.assertIs(is_piece_way(net, piece, start, other, bent), own)
            for value in (tuple(road), None, [road], "".join(road), road + [None], road + ["z"], dict.fromkeys(road)):
                self.assertIs(is_way(net, start, other, value), False)
                self.assertIs(is_piece_way(net, piece, start, other, value), False)

    def test_unlike_stuck_lamps(self):
        net = made_net("abst", "ab bs", "!s !t")
        for one, other in ((["a"], ["a", "s"]), (["a", "t"], ["b"]), (["s"], ["t"])):
            self.assertIsNone(way_between(net, one, other))
            self.assertIs(is_way(net, one, other, []), False)
            for function, more in ((piece_way, []), (is_piece_way, [[]]), (is_piece_way, [None])):
                with self.assertRaises(Unlike) as held:
                    function(net, ["a", "b"], one, other, *more)
                self.assertIs(held.exception.value, other)
                with self.assertRaises(InvalidPiece):
                    function(net, ["a"], one, other, *more)
                with self.assertRaises(InvalidSetting) as held:
                    function(net, ["a", "b"], one, ("s",), *more)
                self.assertEqual(held.exception.value, ("s",))


class CoreLeads(unittest.TestCase):
    """What the bound with a core rests on: how many deeds of a core's own lamps are enough, whatever the core."""

    def test_all_shapes_of_cores(self):
        cores, longest, widest = 0, 0, 0
        for ties in hanging_shapes(6):
            near = [sum(1 << "abcdef".index(other) for other in own_near(ties, lamp)) for lamp in "abcdef"]
            # Which lists meet oddly which others, the places of lists being bits of their numbers.
            meets = [functools.reduce(operator.xor, [near[at] for at in range(6) if some >> at & 1], 0)
                     for some in range(64)]
            if not own_has_points(list("abcdef"), ties):
                cores += 1
                for start in range(1, 64):
                    found = [(lit, len(road)) for lit, road in shortest_roads(Walk(near, 0, start), range(6)).items()]
                    widest = max(widest, found[-1][1])
                    for row in range(1, 64):
                        for up in (0, 1):
                            led_there = [many for lit, many in found
                                         if (meets[row] & lit).bit_count() % 2 == up and lit != row]
                            longest = max(longest, led_there[0])
        self.assertEqual([cores, longest, widest], [32, 8, 16])


class GreatWays(unittest.TestCase):
    def check(self, net, piece, dice, many):
        """Walk ways between settings of which some are joined: by walks, by one lamp's difference, by chance."""
        found = 0
        for _ in range(many):
            one = [lamp for lamp in net.lamps() if dice.random() < dice.choice([0.1, 0.5, 0.9])]
            other = in_place_of(piece, one, [lamp for lamp in piece if dice.random() < 0.5])
            for aim in (other, random_walk(net, one, 200, dice)[1]):
                road = timed(self, piece_way, net, piece, one, aim)
                whole = timed(self, way_between, net, one, aim)
                self.assertEqual(road, whole)
                self.assertIs(timed(self, is_way, net, one, aim, whole), whole is not None)
                if road is None:
                    self.assertIs(aim, other)
                    continue
                found += 1
                self.assertIs(timed(self, is_piece_way, net, piece, one, aim, road), True)
                self.assertEqual(own_walk(net, one, road), aim)
                self.assertLessEqual(len(road), piece_bound(net, piece))
        return found

    def test_great_pieces_with_a_core(self):
        dice = random.Random(5)
        for many in (12, 16, 24, 27):
            for share in (0, 0.1, 0.5):
                net, piece = random_great(many, many, share, 4)
                self.assertEqual(kind_of(net, piece), "core")
                self.assertGreaterEqual(self.check(net, piece, dice, 3), 3)

    def test_a_long_row_at_a_core(self):
        """Each lamp of the row is as far from the core as can be."""
        dice = random.Random(6)
        letters = "abcdefghijklmnopqrstuvwx"
        for core in (COMB, WHEEL):
            ties = core + " " + " ".join(a + b for a, b in zip("a" + letters[6:], letters[6:]))
            net, piece = made_net(letters, ties, "b h k n"), list(letters)
            self.assertGreaterEqual(self.check(net, piece, dice, 6), 6)
            for one, other in (([], ["x"]), (["x"], ["g"]), (["w"], ["a", "b", "c"])):
                road = way_between(net, one, other)
                alike = own_sign(net, piece, one) == own_sign(net, piece, other)
                self.assertIs(road is not None, alike)
                if alike:
                    self.assertEqual(own_walk(net, one, road), other)

    def test_far_lamps_alone_while_the_core_is_still(self):
        """Only lamps at the end of a long row are ready, from which the core has to be made ready, at both ends."""
        letters = "abcdefghijklmnop"
        net = made_net(letters, COMB + " " + " ".join(a + b for a, b in zip("a" + letters[6:], letters[6:])))
        settings = [lot for lot in all_lots(list("lmnop")) if lot]
        for one in settings[::2]:
            for other in settings:
                road = way_between(net, one, other)
                alike = own_sign(net, list(letters), one) == own_sign(net, list(letters), other)
                self.assertIs(road is not None, alike)
                if alike:
                    self.assertEqual(own_walk(net, one, road), other)
                    self.assertIs(is_way(net, one, other, road), True)

    def test_great_paired_pieces(self):
        dice, seen = random.Random(7), {"even": 0, "twisted": 0}
        for many in (12, 18, 24, 27):
            for tuples in great_tuples(many):
                net, piece = net_of_tuples(tuples, 4)
                seen[temper(net, piece, [])] += 1
                self.assertGreaterEqual(self.check(net, piece, dice, 2), 2)
        self.assertTrue(seen["even"] >= 8 and seen["twisted"] >= 8)


if __name__ == "__main__":
    unittest.main()
