"""Points [37] to [39]: which pieces are paired, points in order, and all ways to give them."""

import itertools
import random
import unittest

from helpers import (
    LETTERS, Net, all_graphs, growing_tuples, hanging_graphs, hanging_shapes, odd_net, own_in_order, own_near,
    own_pieces, own_ties)
from oddlamps.errors import InvalidCount
from oddlamps.points import (
    all_points, are_points, doubles, far, is_paired, lamps_at, many_ways, points_of, put_in_order)


def own_are_points(lamps, ties, points):
    """Judge a dictionary of tuples of whole numbers by the words of [37]."""
    counts = {count for pair in points.values() for count in pair}
    if counts != set(range(len(counts))) or any(low >= high for low, high in points.values()):
        return False
    return own_ties(lamps, [points[lamp] for lamp in lamps]) == ties


def table_of(many):
    """Return a dictionary from ties to ALL lists of tuples that make them, called in the order they come up."""
    table = {}
    for tuples in growing_tuples(many):
        table.setdefault(tuple(own_ties(LETTERS[:many], tuples)), []).append(tuples)
    return table


def all_ways(table, ties):
    """Return the ascending list of those of a table's lists that are in order."""
    return sorted(tuples for tuples in table.get(tuple(ties), []) if own_in_order(tuples) == tuples)


def four_without_idle(lamps, ties):
    """Tell whether some four lamps hang together and have no idle list but the empty one."""
    for four in itertools.combinations(lamps, 4):
        inner = [tie for tie in ties if tie[0] in four and tie[1] in four]
        lists = [some for many in range(1, 5) for some in itertools.combinations(four, many)]
        idle = [some for some in lists if all(len(set(own_near(inner, lamp)) & set(some)) % 2 == 0 for lamp in four)]
        if len(own_pieces(four, inner)) == 1 and not idle:
            return True
    return False


def called_otherwise(points, dice):
    """Return points with the counts called otherwise, the keys in another order."""
    many = 1 + max(max(pair) for pair in points.values())
    called = dice.sample(range(many), many)
    lamps = dice.sample(list(points), len(points))
    return {lamp: tuple(sorted(called[point] for point in points[lamp])) for lamp in lamps}


class Paired(unittest.TestCase):
    def test_all_dictionaries_make_what_the_growing_lists_make(self):
        for many in (1, 2, 3, 4):
            pairs = list(itertools.combinations(range(many + 1), 2))
            made = {tuple(own_ties(LETTERS[:many], tuples)) for tuples in itertools.product(pairs, repeat=many)
                    if len({count for pair in tuples for count in pair}) == 1 + max(max(pair) for pair in tuples)}
            hanging = {tuple(ties) for ties in hanging_graphs(many)}
            self.assertEqual(made & hanging, set(table_of(many)) & hanging)

    def test_all_pieces_of_up_to_five_lamps(self):
        for many in range(1, 6):
            table, lamps = table_of(many), list(LETTERS[:many])
            for ties in hanging_graphs(many):
                net = odd_net(many, ties)
                own = all_ways(table, ties)
                self.assertIs(is_paired(net, lamps), bool(own))
                self.assertEqual(all_points(net, lamps), own)
                self.assertEqual(many_ways(net, lamps), len(own))
                told = points_of(net, lamps)
                self.assertEqual(list(told), lamps)
                self.assertIn([told[lamp] for lamp in lamps], [list(way) for way in own])

    def test_all_pieces_of_six_lamps(self):
        table, lamps, paired = table_of(6), list(LETTERS[:6]), 0
        for ties in hanging_graphs(6):
            net = odd_net(6, ties)
            told = points_of(net, lamps)
            self.assertIs(told is not None, tuple(ties) in table)
            if told is not None:
                paired += 1
                self.assertTrue(own_are_points(lamps, ties, told))
        self.assertTrue(0 < paired < 26704)

    def test_all_ways_of_the_shapes_of_six_lamps(self):
        table, lamps = table_of(6), list(LETTERS[:6])
        for ties in hanging_shapes(6):
            net = odd_net(6, ties)
            own = all_ways(table, ties)
            self.assertEqual([all_points(net, lamps), many_ways(net, lamps), is_paired(net, lamps)],
                             [own, len(own), bool(own)])

    def test_numbers_that_the_document_tells(self):
        for many in (1, 2, 3, 4, 5, 6):
            lamps = list(LETTERS[:many])
            for ties in hanging_graphs(many) if many < 6 else hanging_shapes(6):
                net = odd_net(many, ties)
                told = 0
                if is_paired(net, lamps):
                    told = 1 if many <= 2 or four_without_idle(lamps, ties) else 2 ** (many - 2)
                self.assertEqual(many_ways(net, lamps), told)

    def test_six_lamps_that_are_no_paired_piece(self):
        comb = [("a", "b"), ("b", "c"), ("c", "d"), ("c", "f"), ("d", "e")]
        wheel = [("a", "b"), ("a", "e"), ("b", "c"), ("c", "d"), ("d", "e")] + [(lamp, "f") for lamp in "abcde"]
        for ties in (comb, wheel):
            net, lamps = odd_net(6, ties), list("abcdef")
            told = [is_paired(net, lamps), points_of(net, lamps), many_ways(net, lamps), all_points(net, lamps)]
            self.assertEqual(told, [False, None, 0, []])

    def test_wishes_and_stuck_lamps_do_not_matter(self):
        for ties in hanging_graphs(4):
            lamps = list("abcd")
            plain = odd_net(4, ties)
            mixed = Net(lamps + ["s", "t"], ties + [("a", "s"), ("b", "s"), ("s", "t"), ("d", "t")],
                        {"a": "even", "b": "odd", "c": "even", "d": "even", "s": "stuck", "t": "stuck"})
            for function in (is_paired, points_of, many_ways, all_points):
                self.assertEqual(function(mixed, lamps), function(plain, lamps))

    def test_a_piece_among_others(self):
        net = Net(list("abcxyz"), [("a", "y"), ("b", "y"), ("c", "z"), ("x", "z")],
                  {lamp: "odd" for lamp in "abcxyz"})
        self.assertEqual(points_of(net, ["a", "b", "y"]), {"a": (0, 1), "b": (0, 1), "y": (0, 2)})
        self.assertEqual(all_points(net, ["c", "x", "z"]), [[(0, 1), (0, 1), (0, 2)], [(0, 1), (2, 3), (0, 2)]])


class Judged(unittest.TestCase):
    def test_all_small_dictionaries_are_judged(self):
        for many in (1, 2, 3):
            lamps, pairs = list(LETTERS[:many]), list(itertools.product(range(-1, many + 2), repeat=2))
            for ties in hanging_graphs(many):
                net = odd_net(many, ties)
                for tuples in itertools.product(pairs, repeat=many) if many < 3 else random.Random(1).sample(
                        list(itertools.product([pair for pair in pairs if 0 <= pair[0]], repeat=3)), 3000):
                    points = dict(zip(lamps, tuples))
                    self.assertIs(are_points(net, lamps, points), own_are_points(lamps, ties, points))

    def test_points_bent_in_one_place(self):
        seen = {True: 0, False: 0}
        for many in (2, 3, 4, 5):
            lamps = list(LETTERS[:many])
            for ties in hanging_shapes(many):
                net = odd_net(many, ties)
                for way in all_points(net, lamps):
                    points = dict(zip(lamps, way))
                    self.assertIs(are_points(net, lamps, points), True)
                    top = 1 + max(max(pair) for pair in way)
                    for lamp in lamps:
                        for pair in itertools.product(range(-1, top + 2), repeat=2):
                            bent = {**points, lamp: pair}
                            own = own_are_points(lamps, ties, bent)
                            seen[own] += 1
                            self.assertIs(are_points(net, lamps, bent), own)
        self.assertTrue(seen[False] > 10 * seen[True] > 0)

    def test_keys_in_any_order(self):
        dice = random.Random(2)
        for ties in hanging_shapes(5):
            net, lamps = odd_net(5, ties), list("abcde")
            for way in all_points(net, lamps):
                self.assertIs(are_points(net, lamps, called_otherwise(dict(zip(lamps, way)), dice)), True)


class InOrder(unittest.TestCase):
    def test_from_any_calling_of_the_counts(self):
        for many in (1, 2, 3, 4):
            lamps = list(LETTERS[:many])
            for ties in hanging_graphs(many):
                net = odd_net(many, ties)
                for way in all_points(net, lamps):
                    top = 1 + max(max(pair) for pair in way)
                    for called in itertools.permutations(range(top)):
                        points = {lamp: tuple(sorted(called[point] for point in pair))
                                  for lamp, pair in list(zip(lamps, way))[::-1]}
                        told = put_in_order(net, lamps, points)
                        self.assertEqual(list(told.items()), list(zip(lamps, way)))

    def test_five_and_six_lamps(self):
        dice = random.Random(3)
        for many in (5, 6):
            lamps = list(LETTERS[:many])
            for ties in hanging_shapes(many):
                net = odd_net(many, ties)
                for way in all_points(net, lamps):
                    points = dict(zip(lamps, way))
                    self.assertEqual(list(points.values()), own_in_order(way))
                    for _ in range(5):
                        told = put_in_order(net, lamps, called_otherwise(points, dice))
                        self.assertEqual(list(told.items()), list(points.items()))

    def test_what_is_told_first_is_the_first_in_order(self):
        for ties in hanging_shapes(5):
            net, lamps = odd_net(5, ties), list("abcde")
            points = points_of(net, lamps)
            self.assertEqual(list(put_in_order(net, lamps, points).items()), list(points.items()))


class Told(unittest.TestCase):
    def each_points(self):
        for many in (1, 2, 3, 4, 5):
            for ties in hanging_shapes(many):
                net, lamps = odd_net(many, ties), list(LETTERS[:many])
                for way in all_points(net, lamps):
                    yield net, lamps, dict(zip(lamps, way)), 1 + max(max(pair) for pair in way)

    def test_lamps_at(self):
        for net, lamps, points, top in self.each_points():
            for point in range(top):
                self.assertEqual(lamps_at(net, lamps, points, point), [lamp for lamp in lamps if point in points[lamp]])
            for none in (-1, top, top + 1):
                with self.assertRaises(InvalidCount) as held:
                    lamps_at(net, lamps, points, none)
                self.assertEqual(held.exception.value, none)

    def test_doubles(self):
        found = 0
        for net, lamps, points, _ in self.each_points():
            own = [(one, other) for one, other in itertools.combinations(lamps, 2) if points[one] == points[other]]
            self.assertEqual(doubles(net, lamps, points), own)
            found += len(own)
        self.assertGreater(found, 20)

    def test_far_against_walks(self):
        for net, lamps, points, top in self.each_points():
            for start in range(top):
                reached, steps = {start: 0}, 0
                while len(reached) < top:
                    steps += 1
                    ends = [point for pair in points.values() if set(pair) & set(reached) for point in pair]
                    reached.update({point: steps for point in ends if point not in reached})
                for point in range(top):
                    self.assertEqual(far(net, lamps, points, start, point), reached[point])
            for one, other, told in ((top, 0, top), (0, top, top), (top + 1, -1, top + 1), (0, -1, -1)):
                with self.assertRaises(InvalidCount) as held:
                    far(net, lamps, points, one, other)
                self.assertEqual(held.exception.value, told)

    def test_graphs_of_all_shapes_were_made(self):
        self.assertEqual([len(hanging_shapes(many)) for many in (1, 2, 3, 4, 5)], [1, 1, 2, 6, 21])
        self.assertEqual([len(all_graphs(many)) for many in (1, 2, 3, 4)], [1, 2, 8, 64])


if __name__ == "__main__":
    unittest.main()
