"""Points [40] to [42]: marks, moves, fewest moves and slopes."""

import itertools
import unittest

from helpers import LETTERS, Net, all_lots, frozen, hanging_shapes, odd_net
from oddlamps.errors import InvalidCount, InvalidHeights, InvalidLamp
from oddlamps.points import (
    all_points, are_moves, are_shortest_moves, fewest_moves, is_steepest, moved, moves, rise, shortest_moves, steepest)


def each_points(largest):
    """Go through all points of one piece of each shape, of so many lamps at most."""
    for many in range(1, largest + 1):
        for ties in hanging_shapes(many):
            net, lamps = odd_net(many, ties), list(LETTERS[:many])
            for way in all_points(net, lamps):
                yield net, lamps, dict(zip(lamps, way)), 1 + max(max(pair) for pair in way)


def own_moves(points, marks):
    """Return for each lamp that joins a marked point and an unmarked one the marks behind its move."""
    behind = {}
    for lamp, pair in points.items():
        if len(set(pair) & set(marks)) == 1:
            behind[lamp] = sorted(set(pair) ^ set(marks))
    return behind


def all_walks(points, marks):
    """Return for all marks to which moves lead the least number of moves, by going through ALL of them."""
    found, edge = {tuple(marks): 0}, [list(marks)]
    while edge:
        further = []
        for now in edge:
            for behind in own_moves(points, now).values():
                if tuple(behind) not in found:
                    found[tuple(behind)] = found[tuple(now)] + 1
                    further.append(behind)
        edge = further
    return found


def all_slopes(points, top):
    """Return ALL slopes with 0 at the point 0; all others differ from one of them by a number at each point alike."""
    slopes = []
    for numbers in itertools.product(range(-top, top + 1), repeat=top - 1):
        slope = dict(enumerate((0,) + numbers))
        if all(abs(slope[low] - slope[high]) <= 1 for low, high in points.values()):
            slopes.append(slope)
    return slopes


class Moves(unittest.TestCase):
    def test_moves_and_moved(self):
        for net, lamps, points, top in each_points(5):
            for marks in all_lots(range(top)):
                behind = own_moves(points, marks)
                self.assertEqual(moves(net, lamps, points, marks), sorted(behind))
                for lamp in lamps:
                    if lamp in behind:
                        told = moved(net, lamps, points, marks, lamp)
                        self.assertEqual(told, behind[lamp])
                        self.assertEqual(moved(net, lamps, points, told, lamp), marks)
                    else:
                        with self.assertRaises(InvalidLamp) as held:
                            moved(net, lamps, points, marks, lamp)
                        self.assertIs(held.exception.value, lamp)

    def test_lists_of_lamps_are_judged_by_walking(self):
        for net, lamps, points, top in each_points(3):
            lists = [list(some) for many in range(5) for some in itertools.product(lamps, repeat=many)]
            for marks in all_lots(range(top)):
                reached = {}
                for some in lists:
                    now = marks
                    for lamp in some:
                        now = own_moves(points, now).get(lamp) if now is not None else None
                    reached[tuple(some)] = now
                fewest = all_walks(points, marks)
                for wished in all_lots(range(top)):
                    if len(wished) == len(marks):
                        for some in lists:
                            right = reached[tuple(some)] == wished
                            self.assertIs(are_moves(net, lamps, points, marks, wished, some), right)
                            self.assertIs(are_shortest_moves(net, lamps, points, marks, wished, some),
                                          right and len(some) == fewest[tuple(wished)])

    def test_moves_of_other_pieces_are_none(self):
        net = Net(list("abxys"), [("a", "b"), ("x", "y"), ("b", "s")],
                  {"a": "odd", "b": "odd", "x": "odd", "y": "even", "s": "stuck"})
        piece, points = ["a", "b"], {"b": (1, 2), "a": (0, 1)}
        self.assertIs(are_moves(net, piece, points, [0], [1], ["a"]), True)
        for value in (["x"], ["s"], ["a", "x"], ["q"], ["a", "b", "s"], ("a",), "a", [("a",)], ["ab"], {"a": 1}, None):
            self.assertIs(are_moves(net, piece, points, [0], [1], value), False)
            self.assertIs(are_shortest_moves(net, piece, points, [0], [1], value), False)
        for lamp in ("x", "y", "s", "q", None, ["a"], True):
            with self.assertRaises(InvalidLamp) as held:
                moved(net, piece, points, [0], lamp)
            self.assertIs(held.exception.value, lamp)

    def test_wished_marks_are_as_many(self):
        for net, lamps, points, top in each_points(3):
            lots = all_lots(range(top))
            for marks, wished in itertools.product(lots, lots):
                calls = [(fewest_moves, []), (shortest_moves, []), (steepest, []), (are_moves, [[]]),
                         (are_shortest_moves, [[]]), (rise, [None]), (is_steepest, [None])]
                for function, more in calls if len(marks) != len(wished) else []:
                    with self.assertRaises(InvalidCount) as held:
                        function(net, lamps, points, marks, wished, *more)
                    self.assertIs(held.exception.value, wished)


class Fewest(unittest.TestCase):
    def check(self, net, lamps, points, marks, walks):
        for wished in walks:
            arguments = [net, lamps, points, marks, list(wished)]
            road = shortest_moves(*arguments)
            self.assertEqual(fewest_moves(*arguments), walks[wished])
            self.assertEqual(len(road), walks[wished])
            now = marks
            for lamp in road:
                now = own_moves(points, now)[lamp]
            self.assertEqual(now, list(wished))
            self.assertIs(are_moves(*arguments, road), True)
            self.assertIs(are_shortest_moves(*arguments, road), True)
            if road:
                longer = road + [road[-1], road[-1]]
                self.assertIs(are_moves(*arguments, longer), True)
                self.assertIs(are_shortest_moves(*arguments, longer), False)
                self.assertIs(are_moves(*arguments, road[:-1]), False)
            slope = steepest(*arguments)
            self.assertEqual(list(slope), list(range(1 + max(max(pair) for pair in points.values()))))
            self.assertEqual(rise(*arguments, slope), walks[wished])
            self.assertIs(is_steepest(*arguments, slope), True)

    def test_against_all_walks_of_marks(self):
        for net, lamps, points, top in each_points(5):
            for marks in all_lots(range(top)):
                walks = all_walks(points, marks)
                self.assertEqual(len(walks), len([lot for lot in all_lots(range(top)) if len(lot) == len(marks)]))
                self.check(net, lamps, points, marks, walks)

    def test_rows_rings_and_bushes_of_seven_lamps(self):
        lamps = list("abcdefg")
        for tuples in ([(at, at + 1) for at in range(7)], [(at, at + 1) for at in range(6)] + [(0, 6)],
                       [(0, 1), (0, 2), (0, 3), (3, 4), (3, 5), (5, 6), (5, 6)]):
            ties = [(one, other) for (one, a), (other, b) in itertools.combinations(list(zip(lamps, tuples)), 2)
                    if len(set(a) & set(b)) == 1]
            net, points = odd_net(7, ties), dict(zip(lamps, tuples))
            top = 1 + max(max(pair) for pair in tuples)
            for marks in all_lots(range(top))[::3]:
                self.check(net, lamps, points, marks, all_walks(points, marks))


class Slopes(unittest.TestCase):
    def test_rises_of_all_small_slopes(self):
        for net, lamps, points, top in each_points(4):
            slopes = all_slopes(points, top)
            lots = all_lots(range(top))
            for marks, wished in itertools.product(lots, lots):
                if len(marks) == len(wished):
                    rises = [sum(slope[point] for point in wished) - sum(slope[point] for point in marks)
                             for slope in slopes]
                    self.assertEqual(max(rises), fewest_moves(net, lamps, points, marks, wished))
                    for slope, own in zip(slopes[::5], rises[::5]):
                        self.assertEqual(rise(net, lamps, points, marks, wished, slope), own)
                        self.assertIs(is_steepest(net, lamps, points, marks, wished, slope), own == max(rises))

    def test_slopes_that_are_lifted(self):
        for net, lamps, points, top in each_points(4):
            marks, wished = list(range(top // 2)), list(range(top - top // 2, top))
            slope = steepest(net, lamps, points, marks, wished)
            for by in (-60, -1, 1, 10 ** 30):
                lifted = {point: slope[point] + by for point in reversed(list(slope))}
                self.assertEqual(rise(net, lamps, points, marks, wished, lifted),
                                 rise(net, lamps, points, marks, wished, slope))
                self.assertIs(is_steepest(net, lamps, points, marks, wished, lifted), True)

    def test_bent_slopes(self):
        bent_ones = 0
        for net, lamps, points, top in each_points(4):
            marks, wished = [0], [top - 1]
            slope = steepest(net, lamps, points, marks, wished)
            for point in range(top):
                for by in (-3, -2, -1, 1, 2, 3):
                    bent = {**slope, point: slope[point] + by}
                    if all(abs(bent[low] - bent[high]) <= 1 for low, high in points.values()):
                        own = bent[top - 1] - bent[0]
                        self.assertEqual(rise(net, lamps, points, marks, wished, bent), own)
                        self.assertIs(is_steepest(net, lamps, points, marks, wished, bent),
                                      own == fewest_moves(net, lamps, points, marks, wished))
                        continue
                    bent_ones += 1
                    self.assertIs(is_steepest(net, lamps, points, marks, wished, bent), False)
                    with self.assertRaises(InvalidHeights) as held:
                        rise(net, lamps, points, marks, wished, bent)
                    self.assertIs(held.exception.value, bent)
            for wrong in ({}, {point: 0 for point in range(top - 1)}, {point: 0 for point in range(top + 1)},
                          [0] * top, {point: False for point in range(top)}, {str(point): 0 for point in range(top)}):
                self.assertIs(is_steepest(net, lamps, points, marks, wished, wrong), False)
        self.assertGreater(bent_ones, 100)

    def test_no_marks_at_all(self):
        for net, lamps, points, top in each_points(3):
            flat = {point: 0 for point in range(top)}
            self.assertEqual(frozen([moves(net, lamps, points, []), shortest_moves(net, lamps, points, [], []),
                                     fewest_moves(net, lamps, points, [], []), rise(net, lamps, points, [], [], flat)]),
                             frozen([[], [], 0, 0]))
            self.assertIs(is_steepest(net, lamps, points, [], [], flat), True)
            self.assertEqual(moves(net, lamps, points, list(range(top))), [])


if __name__ == "__main__":
    unittest.main()
