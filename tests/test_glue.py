"""Points [87] to [90]: nets tied and met, lone and leafy points, and the kinds of what is tied and met."""

import itertools
import random
import unittest

from great import great_pieces, great_tuples, net_of_tuples, timed
from helpers import (
    COMB, LETTERS, Net, frozen, hanging_shapes, made_net, odd_net, own_has_points, own_near, own_net_pieces,
    own_ties, random_net, small_nets)
from oddlamps.cores import kind_of
from oddlamps.errors import InvalidLamp, Unlike
from oddlamps.glue import (
    are_leafy_points, are_lone_points, leafy_points, lone_points, met, met_kind, tied, tied_kind)
from oddlamps.nets import piece_of, renamed
from oddlamps.points import all_points


def moved_on(net, but=()):
    """Return a net with other lamps, but those that shall stay."""
    return renamed(net, {lamp: lamp if lamp in but else "z" + lamp for lamp in net.lamps()})


def own_both(one, other, *ties):
    """Return the net of both nets and some ties."""
    wishes = {**one.wishes(), **other.wishes()}
    return Net(list(wishes), sorted({*one.ties(), *other.ties(), *ties}), wishes)


def own_leaves(net, piece, lamp):
    """Return the leaves of a piece that are tied to a lamp."""
    inner = {one: [near for near in own_near(net.ties(), one) if near in piece] for one in piece}
    return [one for one in inner[lamp] if len(inner[one]) == 1]


def own_others(points, lamp):
    return [[one for one in points if one != lamp and point in points[one]] for point in points[lamp]]


def own_lone(points, lamp):
    return any(not others for others in own_others(points, lamp))


def own_leafy(net, piece, points, lamp):
    leaves = own_leaves(net, piece, lamp)
    return any(set(others) <= set(leaves) for others in own_others(points, lamp))


def small_pieces(largest):
    """Go through all shapes of pieces of so many lamps at most."""
    for many in range(1, largest + 1):
        for ties in hanging_shapes(many):
            yield odd_net(many, ties), list(LETTERS[:many])


class Nets(unittest.TestCase):
    def refuses(self, function, arguments, error, value):
        with self.assertRaises(Exception) as held:
            function(*arguments)
        self.assertIs(type(held.exception), error)
        self.assertIs(held.exception.value, value)

    def test_nets_that_are_tied(self):
        dice = random.Random(1)
        nets = small_nets() + [random_net(seed, 7, 0.3, 0.4) for seed in range(6)]
        for one, other in zip(nets, nets[3:] + nets[:3]):
            other = moved_on(other)
            for _ in range(6):
                first, second = dice.choice(one.lamps()), dice.choice(other.lamps())
                own = own_both(one, other, tuple(sorted((first, second))))
                self.assertEqual(frozen(tied(one, other, first, second)), frozen(own))
                self.assertEqual(frozen(tied(other, one, second, first)), frozen(own))
                self.refuses(tied, [one, other, second, first], InvalidLamp, second)
                self.refuses(tied, [one, other, first, first], InvalidLamp, first)

    def test_nets_that_are_met(self):
        dice = random.Random(2)
        nets = small_nets() + [random_net(seed, 7, 0.3, 0.4) for seed in range(6)]
        for one, other in itertools.product(nets[::2], nets[1::2]):
            alike = [lamp for lamp in one.lamps() if other.wishes().get(lamp) == one.wishes()[lamp]]
            unlike = [lamp for lamp in one.lamps() if lamp in other.lamps() and lamp not in alike]
            for lamp in alike[:2]:
                there = moved_on(other, [lamp])
                own = own_both(one, there)
                self.assertEqual(frozen(met(one, there, lamp)), frozen(own))
                self.assertEqual(frozen(met(there, one, lamp)), frozen(own))
                further = dice.choice(one.lamps())
                if further != lamp:
                    self.refuses(met, [one, there, further], InvalidLamp, further)
                    self.refuses(met, [there, one, further], InvalidLamp, further)
            for lamp in unlike[:2]:
                there = moved_on(other, [lamp])
                self.refuses(met, [one, there, lamp], Unlike, there)
                self.refuses(met, [there, one, lamp], Unlike, one)

    def test_lamps_in_both_nets(self):
        one, other = made_net("abcs", "ab bc cs", "!s"), made_net("cdes", "cd de ds", "!s")
        for function in (tied, tied_kind):
            self.refuses(function, [one, other, "a", "d"], Unlike, other)
            self.refuses(function, [other, one, "d", "a"], Unlike, one)
            self.refuses(function, [one, one, "a", "b"], Unlike, one)
            self.refuses(function, [one, other, "d", "d"], InvalidLamp, "d")
            self.refuses(function, [one, other, "a", "a"], InvalidLamp, "a")
        for function in (met, met_kind):
            self.refuses(function, [one, other, "c"], Unlike, other)
            self.refuses(function, [other, one, "c"], Unlike, one)
            self.refuses(function, [one, other, "a"], InvalidLamp, "a")
        self.refuses(met, [one, other, "s"], Unlike, other)
        self.refuses(met_kind, [one, other, "s"], InvalidLamp, "s")
        self.refuses(tied_kind, [one, moved_on(other), "s", "zd"], InvalidLamp, "s")
        self.refuses(tied_kind, [one, moved_on(other), "a", "zs"], InvalidLamp, "zs")
        freed = Net(["s", "t"], [("s", "t")], {"s": "odd", "t": "odd"})
        self.refuses(met, [made_net("as", "as", "!s"), freed, "s"], Unlike, freed)
        self.refuses(met_kind, [made_net("as", "as", "!s"), freed, "s"], InvalidLamp, "s")
        self.refuses(met_kind, [freed, made_net("as", "as", "!s"), "s"], InvalidLamp, "s")


class Points(unittest.TestCase):
    def each_piece(self):
        yield from small_pieces(5)
        for ties in hanging_shapes(6)[::5]:
            yield odd_net(6, ties), list("abcdef")
        for net in small_nets() + [random_net(seed, 8, 0.3, 0.3) for seed in range(8)]:
            for piece in own_net_pieces(net):
                yield net, piece

    def test_against_all_points(self):
        seen = {}
        for net, piece in self.each_piece():
            ways = [dict(zip(piece, way)) for way in all_points(net, piece)]
            for lamp in piece:
                lone = [points for points in ways if own_lone(points, lamp)]
                leafy = [points for points in ways if own_leafy(net, piece, points, lamp)]
                for found, told, judge in ((lone, lone_points(net, piece, lamp), are_lone_points),
                                           (leafy, leafy_points(net, piece, lamp), are_leafy_points)):
                    self.assertIs(told is None, not found)
                    self.assertIs(judge(net, piece, lamp, told), bool(found))
                    if told is not None:
                        self.check(net, piece, lamp, told, judge)
                    for points in ways[:8]:
                        self.assertIs(judge(net, piece, lamp, points), points in found)
                self.assertTrue(len(lone) <= len(leafy))
                key = (len(ways) > 1, bool(lone), bool(leafy))
                seen[key] = seen.get(key, 0) + 1
        self.assertEqual({key for key in seen if key[0]}, {(True, True, True)})
        self.assertEqual({key[1:] for key in seen if not key[0]}, {(True, True), (False, True), (False, False)})

    def check(self, net, piece, lamp, told, judge):
        """Check points that are told, and that those that come of them are judged alike, bent ones not."""
        self.assertEqual(list(told), piece)
        self.assertEqual(own_ties(piece, list(told.values())),
                         [tie for tie in net.ties() if tie[0] in piece and tie[1] in piece])
        self.assertTrue(own_leafy(net, piece, told, lamp) if judge is are_leafy_points else own_lone(told, lamp))
        top = max(high for _, high in told.values())
        called = {point: top - point for point in range(top + 1)}
        other_way = {one: tuple(sorted(called[point] for point in told[one])) for one in reversed(piece)}
        self.assertIs(judge(net, piece, lamp, other_way), True)
        low, high = told[lamp]
        for bent in ({**told, lamp: (high, low)}, {**told, lamp: [low, high]}, list(told.items()),
                     {**told, "zz": (0, 1)}, {**told, lamp: (low, top + 2)}, {**told, lamp: (low, high, top)}, None, {},
                     {one: told[one] for one in piece if one != lamp}):
            self.assertIs(judge(net, piece, lamp, bent), False)

    def test_lamps_of_other_pieces_and_stuck_ones(self):
        net, piece = made_net("abcxs", "ab bc bs sx", "!s"), ["a", "b", "c"]
        for lamp in ("x", "s", "z", None, ["a"], ("a",), True, "", 0):
            for function, more in ((lone_points, []), (leafy_points, []), (are_lone_points, [None]),
                                   (are_leafy_points, [{}])):
                with self.assertRaises(InvalidLamp) as held:
                    function(net, piece, lamp, *more)
                self.assertIs(held.exception.value, lamp)

    def test_a_leaf_has_to_be_tied_to_the_lamp(self):
        star = made_net("abm", "am bm")
        doubled = {"a": (0, 2), "b": (0, 2), "m": (0, 1)}
        self.assertEqual([judge(star, ["a", "b", "m"], "a", doubled) for judge in (are_lone_points, are_leafy_points)],
                         [False, False])
        self.assertEqual([judge(star, ["a", "b", "m"], "m", doubled) for judge in (are_lone_points, are_leafy_points)],
                         [True, True])
        row = made_net("abcdef", "ab bc cd de ef")
        self.assertEqual([leafy_points(row, list("abcdef"), lamp) is None for lamp in "abcdef"],
                         [False, False, True, True, False, False])
        self.assertEqual([lone_points(row, list("abcdef"), lamp) is None for lamp in "abcdef"],
                         [False, True, True, True, True, False])

    def test_great_pieces(self):
        seen = {True: 0, False: 0}
        for net, piece in great_pieces():
            for lamp in piece[::5]:
                points = timed(self, lone_points, net, piece, lamp)
                self.assertIs(timed(self, are_lone_points, net, piece, lamp, points), points is not None)
                leafy = timed(self, leafy_points, net, piece, lamp)
                self.assertIs(timed(self, are_leafy_points, net, piece, lamp, leafy), leafy is not None)
                self.assertTrue(points is None or leafy is not None)
                seen[leafy is not None] += 1
        self.assertGreater(min(seen.values()), 10)


def own_rule(one, other, first, second, lone, leafy):
    """Tell by the words of [89], or of [90] where leafy is wanted, whether paired pieces become a paired one."""
    (net, piece), (beyond, further) = one, other
    if lone(net, piece, first) and lone(beyond, further, second):
        return True
    for (here, lamps, lamp), (there, more, far) in itertools.permutations(((net, piece, first),
                                                                          (beyond, further, second))):
        leaves = own_leaves(there, more, far)
        if leafy is None and len(lamps) == 1 and leaves:
            return True
        if leafy is not None and len(lamps) == 1:
            return True
        if leafy is not None and set(lamps) == {lamp, *own_leaves(here, lamps, lamp)} and leafy(there, more, far):
            return True
    return False


def has_lone(net, piece, lamp):
    return any(own_lone(dict(zip(piece, way)), lamp) for way in all_points(net, piece))


def has_leafy(net, piece, lamp):
    return any(own_leafy(net, piece, dict(zip(piece, way)), lamp) for way in all_points(net, piece))


class Kinds(unittest.TestCase):
    def check(self, one, other, whole, told, by_rule):
        """Check a kind against a search for points of the whole piece, and against the rule for both pieces."""
        self.assertEqual(told, "paired" if own_has_points(*whole) else "core")
        if own_has_points(*one) and own_has_points(*other):
            self.assertEqual(told == "paired", by_rule())
        else:
            self.assertEqual(told, "core")

    def whole(self, net, lamp):
        piece = piece_of(net, lamp)
        return piece, [tie for tie in net.ties() if tie[0] in piece and tie[1] in piece]

    def test_what_is_tied(self):
        pieces, kinds = list(small_pieces(4)), {"core": 0, "paired": 0}
        for (one, piece), (other, further) in itertools.combinations_with_replacement(pieces, 2):
            other, further = moved_on(other), ["z" + lamp for lamp in further]
            for first, second in itertools.product(piece, further):
                told = tied_kind(one, other, first, second)
                self.assertEqual(told, tied_kind(other, one, second, first))
                self.check(self.whole(one, first), self.whole(other, second),
                           self.whole(tied(one, other, first, second), first), told,
                           lambda: own_rule((one, piece), (other, further), first, second, has_lone, None))
                kinds[told] += 1
        self.assertGreater(min(kinds.values()), 40)

    def test_what_is_met(self):
        pieces, kinds = list(small_pieces(4)), {"core": 0, "paired": 0}
        for (one, piece), (other, beyond) in itertools.combinations_with_replacement(pieces, 2):
            for first, second in itertools.product(piece, beyond):
                sent = {lamp: first if lamp == second else "z" + lamp for lamp in other.lamps()}
                there, further = renamed(other, sent), sorted(sent.values())
                told = met_kind(one, there, first)
                self.assertEqual(told, met_kind(there, one, first))
                self.check(self.whole(one, first), self.whole(there, first),
                           self.whole(met(one, there, first), first), told,
                           lambda: own_rule((one, piece), (there, further), first, first, has_lone, has_leafy))
                kinds[told] += 1
        self.assertGreater(min(kinds.values()), 40)

    def test_greater_pieces_with_cores_leaves_and_stuck_lamps(self):
        dice, kinds = random.Random(3), {"core": 0, "paired": 0}
        nets = small_nets() + [random_net(seed, 7, 0.35, 0.2) for seed in range(12)] + [
            made_net("abcdef", "ab bc cd de ef"), made_net("abcdefs", COMB + " as", "!s")]
        for _ in range(120):
            one, other = dice.sample(nets, 2)
            other = moved_on(other)
            pieces, beyond = own_net_pieces(one), own_net_pieces(other)
            if pieces and beyond:
                piece, further = dice.choice(pieces), dice.choice(beyond)
                first, second = dice.choice(piece), dice.choice(further)
                told = tied_kind(one, other, first, second)
                self.check(self.whole(one, first), self.whole(other, second),
                           self.whole(tied(one, other, first, second), first), told,
                           lambda: own_rule((one, piece), (other, further), first, second, has_lone, None))
                kinds[told] += 1
        self.assertGreater(min(kinds.values()), 10)

    def test_great_pieces(self):
        dice, kinds = random.Random(4), {"core": 0, "paired": 0}
        great = [net_of_tuples(tuples, 4) for tuples in great_tuples(12)] + [
            (net, piece) for net, piece in great_pieces() if len(piece) == 24]
        tail = made_net("uvw", "uv vw")
        for net, piece in great:
            for lamp in dice.sample(piece, 3):
                told = timed(self, tied_kind, net, tail, lamp, "u")
                self.assertEqual(told, kind_of(tied(net, tail, lamp, "u"), sorted(piece + ["u", "v", "w"])))
                lone = lone_points(net, piece, lamp) is not None
                self.assertEqual(told == "paired", lone)
                kinds[told] += 1
                wish = net.wishes()[lamp]
                ends = Net([lamp, "u", "v"], [tuple(sorted((lamp, end))) for end in "uv"],
                           {lamp: wish, "u": "odd", "v": "even"})
                told = timed(self, met_kind, net, ends, lamp)
                self.assertEqual(told == "paired", leafy_points(net, piece, lamp) is not None)
                self.assertEqual(timed(self, met_kind, net, Net([lamp], [], {lamp: wish}), lamp), kind_of(net, piece))
                both = timed(self, tied_kind, net, moved_on(net), lamp, "z" + lamp)
                self.assertEqual(both == "paired", lone)
        self.assertGreater(min(kinds.values()), 10)


if __name__ == "__main__":
    unittest.main()
