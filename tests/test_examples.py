"""The examples that stand in the document, word for word, with their answers."""

import unittest

from helpers import run_examples

NETS = """
from oddlamps.nets import Net, cut_to, free_lamps, hang_together, is_piece, neighbours, piece_of, pieces, renamed, side_by_side, stuck_lamps, without_stuck
net = Net(["c", "a", "b", "d", "s"], [("a", "b"), ("b", "s"), ("c", "s"), ("c", "d")], {"a": "odd", "b": "even", "c": "odd", "d": "odd", "s": "stuck"})
[net.lamps(), net.ties(), neighbours(net, "s"), free_lamps(net), stuck_lamps(net), pieces(net), piece_of(net, "d")]
# [['a', 'b', 'c', 'd', 's'], [('a', 'b'), ('b', 's'), ('c', 'd'), ('c', 's')], ['b', 'c'], ['a', 'b', 'c', 'd'], ['s'], [['a', 'b'], ['c', 'd']], ['c', 'd']]
[hang_together(net, ["b", "a"]), hang_together(net, ["a", "c"]), is_piece(net, ["a", "b"]), is_piece(net, ["a"]), cut_to(net, ["s", "b"]).wishes()]
# [True, False, True, False, {'b': 'even', 's': 'stuck'}]
[without_stuck(net, ["s"]).wishes(), without_stuck(net, []).wishes()["b"], renamed(cut_to(net, ["a"]), {"a": "z"}).lamps(), side_by_side(cut_to(net, ["a"]), cut_to(net, ["s"])).ties()]
# [{'a': 'odd', 'b': 'odd', 'c': 'even', 'd': 'odd'}, 'even', ['z'], []]
"""

SETTINGS = """
from oddlamps.nets import Net
from oddlamps.settings import cut_short, is_ready, is_road, is_setting, led, led_along, lit_neighbours, ready_lamps, setting_shifted, shifted, still_pieces, switched
lamps = ["a", "b", "c", "d", "e", "f"]
six = Net(lamps, [("a", "b"), ("b", "c"), ("c", "d"), ("c", "f"), ("d", "e")], dict([(lamp, "odd") for lamp in lamps]))
[ready_lamps(six, ["c"]), lit_neighbours(six, ["a", "c"], "b"), is_ready(six, ["a", "c"], "b"), switched(six, ["c"], "b"), still_pieces(six, []), is_setting(six, ["c", "a"])]
# [['b', 'd', 'f'], ['a', 'c'], False, ['b', 'c'], [['a', 'b', 'c', 'd', 'e', 'f']], False]
[led(six, ["c"], ["b", "a"]), led_along(six, ["c"], ["b", "a"]), is_road(six, ["c"], ["a"]), led(six, ["a", "b", "c"], ["a", "b"])]
# [['a', 'b', 'c'], [['c'], ['b', 'c'], ['a', 'b', 'c']], False, ['c']]
[cut_short(six, ["c"], ["b", "d", "b"]), cut_short(six, ["c"], ["b", "a", "c", "b"]), cut_short(six, ["c"], ["b", "d", "d", "b", "f"])]
# [['d'], ['b', 'a', 'c', 'b'], ['f']]
street = Net(["a", "b", "s"], [("a", "b"), ("b", "s")], {"a": "odd", "b": "even", "s": "stuck"})
[ready_lamps(street, ["s"]), ready_lamps(street, ["a", "s"]), shifted(street, ["s"]).wishes(), setting_shifted(street, ["a"], ["b", "s"]), ready_lamps(shifted(street, ["s"]), ["a"])]
# [[], ['b'], {'a': 'odd', 'b': 'odd', 's': 'stuck'}, ['a', 'b', 's'], ['b']]
"""

POINTS = """
from oddlamps.nets import Net
from oddlamps.points import all_points, are_points, doubles, far, fewest_moves, is_paired, many_ways, moves, put_in_order, rise
star = Net(["a", "b", "c", "m"], [("a", "m"), ("b", "m"), ("c", "m")], dict([(lamp, "odd") for lamp in "abcm"]))
piece = ["a", "b", "c", "m"]
points = {"a": (0, 2), "b": (0, 2), "c": (1, 3), "m": (0, 1)}
[is_paired(star, piece), are_points(star, piece, points), doubles(star, piece, points), far(star, piece, points, 2, 3), moves(star, piece, points, [0, 2])]
# [True, True, [('a', 'b')], 3, ['m']]
[fewest_moves(star, piece, points, [0, 2], [1, 3]), rise(star, piece, points, [0, 2], [1, 3], {0: 0, 1: 1, 2: -1, 3: 2})]
# [4, 4]
row = Net(["a", "b", "c"], [("a", "b"), ("b", "c")], {"a": "odd", "b": "odd", "c": "even"})
[all_points(row, ["a", "b", "c"]), many_ways(star, piece), put_in_order(row, ["a", "b", "c"], {"c": (0, 3), "a": (1, 2), "b": (0, 1)})]
# [[[(0, 1), (0, 2), (0, 1)], [(0, 1), (0, 2), (2, 3)]], 4, {'a': (0, 1), 'b': (0, 2), 'c': (2, 3)}]
"""


class Examples(unittest.TestCase):
    def test_section_3(self):
        self.assertEqual(run_examples(self, NETS), 3)

    def test_section_4(self):
        self.assertEqual(run_examples(self, SETTINGS), 4)

    def test_section_8(self):
        self.assertEqual(run_examples(self, POINTS), 3)


if __name__ == "__main__":
    unittest.main()
