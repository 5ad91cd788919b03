"""The examples that stand in the document, word for word, with their answers."""

import unittest

from helpers import run_examples

NETS = """
from oddlamps.nets import Net, cut_to, free_lamps, hang_together, is_piece, neighbours, piece_of, pieces, renamed, side_by_side, stuck_lamps, without_stuck
net = Net(["c", "a", "b", "d", "s"], [("a", "b"), ("b", "s"), ("c", "s"), ("c", "d")], {"a": "odd", "b": "even", "c": "odd", "d": "odd", "s": "stuck"})
[net.lamps(), net.ties(), neighbours(net, "s"), free_lamps(net), stuck_lamps(net), pieces(net), piece_of(net, "d")]
# [['a', 'b', 'c', 'd', 's'], [('a', 'b'), ('b', 's'), ('c', 'd'), ('c', 's')], ['b', 'c'], ['a', 'b', 'c', 'd'], ['s'], [['a', 'b'], ['c', 'd']], ['c', 'd']]
[hang_together(net, ["b", "a"]), hang_together(net, ["a", "c"]), is_piece(net, ["a", "b"]), is_piece(net, ["a"]), cut_to(net, ["s", "b"]).wishes()]
# [True, False, True, False, {'b': 'even', 's': 'stuck'}]
[without_stuck(net, ["s"]).wishes(), without_stuck(net, []).wishes()["b"], renamed(cut_to(net, ["a"]), {"a": "z"}).lamps(), side_by_side(cut_to(net, ["a"]), cut_to(net, ["s"])).ties()]
# [{'a': 'odd', 'b': 'odd', 'c': 'even', 'd': 'odd'}, 'even', ['z'], []]
"""

SETTINGS = """
from oddlamps.nets import Net
from oddlamps.settings import cut_short, is_ready, is_road, is_setting, led, led_along, lit_neighbours, ready_lamps, setting_shifted, shifted, still_pieces, switched
lamps = ["a", "b", "c", "d", "e", "f"]
six = Net(lamps, [("a", "b"), ("b", "c"), ("c", "d"), ("c", "f"), ("d", "e")], dict([(lamp, "odd") for lamp in lamps]))
[ready_lamps(six, ["c"]), lit_neighbours(six, ["a", "c"], "b"), is_ready(six, ["a", "c"], "b"), switched(six, ["c"], "b"), still_pieces(six, []), is_setting(six, ["c", "a"])]
# [['b', 'd', 'f'], ['a', 'c'], False, ['b', 'c'], [['a', 'b', 'c', 'd', 'e', 'f']], False]
[led(six, ["c"], ["b", "a"]), led_along(six, ["c"], ["b", "a"]), is_road(six, ["c"], ["a"]), led(six, ["a", "b", "c"], ["a", "b"])]
# [['a', 'b', 'c'], [['c'], ['b', 'c'], ['a', 'b', 'c']], False, ['c']]
[cut_short(six, ["c"], ["b", "d", "b"]), cut_short(six, ["c"], ["b", "a", "c", "b"]), cut_short(six, ["c"], ["b", "d", "d", "b", "f"])]
# [['d'], ['b', 'a', 'c', 'b'], ['f']]
street = Net(["a", "b", "s"], [("a", "b"), ("b", "s")], {"a": "odd", "b": "even", "s": "stuck"})
[ready_lamps(street, ["s"]), ready_lamps(street, ["a", "s"]), shifted(street, ["s"]).wishes(), setting_shifted(street, ["a"], ["b", "s"]), ready_lamps(shifted(street, ["s"]), ["a"])]
# [[], ['b'], {'a': 'odd', 'b': 'odd', 's': 'stuck'}, ['a', 'b', 's'], ['b']]
"""

LISTS = """
from oddlamps.lists import idle_base, is_idle, is_idle_base, is_solved, is_why_unsolved, meets_oddly, rank, still_number, still_setting, sum_of, why_unsolved
from oddlamps.nets import Net
star = Net(["a", "b", "c", "m"], [("a", "m"), ("b", "m"), ("c", "m")], {"a": "odd", "b": "odd", "c": "odd", "m": "odd"})
piece = ["a", "b", "c", "m"]
[sum_of(["a", "b"], ["b", "c"]), meets_oddly(star, piece, ["a", "b"], ["m"]), meets_oddly(star, piece, ["a"], ["m"]), is_idle(star, piece, ["a", "b"]), rank(star, piece), len(idle_base(star, piece))]
# [['a', 'c'], False, True, True, 2, 2]
[is_idle_base(star, piece, [["a", "b"], ["a", "c"]]), is_idle_base(star, piece, [["a", "b"], ["a", "b"]]), is_solved(star, piece, ["a", "b", "c"], ["a", "b", "m"]), why_unsolved(star, piece, ["a", "b", "c"]), is_why_unsolved(star, piece, ["a"], ["a", "b"])]
# [True, False, True, None, True]
[still_number(star, piece, ["a"]), still_setting(star, piece, ["a"]) in ([], ["a", "b"], ["a", "c"], ["b", "c"])]
# [4, True]
"""

SIGNS = """
from oddlamps.nets import Net
from oddlamps.signs import alike_stuck, sign, sign_with, signs, turn, turned_by, turns
net = Net(["a", "b", "c", "m", "x", "y"], [("a", "m"), ("b", "m"), ("c", "m"), ("b", "x"), ("b", "y"), ("c", "y")], {"a": "odd", "b": "even", "c": "odd", "m": "odd", "x": "stuck", "y": "stuck"})
[turns(net, []), turn(net, ["x"], "b"), turns(net, ["x", "y"]), turned_by(net, "y"), alike_stuck(net, ["a"], ["m"]), alike_stuck(net, [], ["x"])]
# [{'a': 0, 'b': 1, 'c': 0, 'm': 0}, 0, {'a': 0, 'b': 1, 'c': 1, 'm': 0}, ['b', 'c'], True, False]
[sign(net, ["a", "b", "c", "m"], ["b", "m"]), signs(net, ["a", "b"]), sign_with(net, ["a", "b", "c", "m"], ["b", "m"], ["a", "b"]), sign(net, ["a", "b", "c", "m"], ["a", "m"])]
# [0, [1], 1, 1]
"""

WORKS = """
from oddlamps.nets import Net
from oddlamps.works import deeds_of, exchanged, is_work, setting_exchanged, worked, worked_list
lamps = ["a", "b", "c", "d", "e", "f"]
six = Net(lamps, [("a", "b"), ("b", "c"), ("c", "d"), ("d", "e"), ("c", "f")], {lamp: "odd" for lamp in lamps})
[is_work(six, lamps, ("a", ["b"])), is_work(six, lamps, ("a", ["c"])), worked_list(six, lamps, ("a", ["b"])), worked_list(six, lamps, ("a", ["b", "b"]))]
# [True, False, ['a', 'b'], ['a']]
[worked(six, lamps, ["c"], ("a", ["b"])), deeds_of(six, lamps, ["c"], ("a", ["b"])), worked(six, lamps, ["a"], ("a", ["b"])), deeds_of(six, lamps, ["e"], ("a", ["b"]))]
# [['a', 'b', 'c'], ['b', 'a'], ['b'], []]
[exchanged(six, "a", "b").ties(), setting_exchanged(six, "a", "b", ["a"]), exchanged(exchanged(six, "a", "b"), "a", "b") == six]
# [[('a', 'b'), ('a', 'c'), ('b', 'c'), ('c', 'd'), ('c', 'f'), ('d', 'e')], ['a', 'b'], True]
"""

POINTS = """
from oddlamps.nets import Net
from oddlamps.points import all_points, are_points, doubles, far, fewest_moves, is_paired, many_ways, moves, put_in_order, rise
star = Net(["a", "b", "c", "m"], [("a", "m"), ("b", "m"), ("c", "m")], dict([(lamp, "odd") for lamp in "abcm"]))
piece = ["a", "b", "c", "m"]
points = {"a": (0, 2), "b": (0, 2), "c": (1, 3), "m": (0, 1)}
[is_paired(star, piece), are_points(star, piece, points), doubles(star, piece, points), far(star, piece, points, 2, 3), moves(star, piece, points, [0, 2])]
# [True, True, [('a', 'b')], 3, ['m']]
[fewest_moves(star, piece, points, [0, 2], [1, 3]), rise(star, piece, points, [0, 2], [1, 3], {0: 0, 1: 1, 2: -1, 3: 2})]
# [4, 4]
row = Net(["a", "b", "c"], [("a", "b"), ("b", "c")], {"a": "odd", "b": "odd", "c": "even"})
[all_points(row, ["a", "b", "c"]), many_ways(star, piece), put_in_order(row, ["a", "b", "c"], {"c": (0, 3), "a": (1, 2), "b": (0, 1)})]
# [[[(0, 1), (0, 2), (0, 1)], [(0, 1), (0, 2), (2, 3)]], 4, {'a': (0, 1), 'b': (0, 2), 'c': (2, 3)}]
"""

CORES = """
from oddlamps.cores import all_cores, core_of, in_all_cores, is_core, kind_of, left_of
from oddlamps.nets import Net
lamps = ["a", "b", "c", "d", "e", "f", "g"]
seven = Net(lamps, [("a", "b"), ("b", "c"), ("c", "d"), ("c", "g"), ("d", "e"), ("e", "f")], {lamp: "odd" for lamp in lamps})
[kind_of(seven, lamps), core_of(seven, lamps), is_core(seven, lamps, ["a", "b", "c", "d", "e", "f"]), left_of(seven, lamps, lamps[::-1])]
# ['core', ['a', 'b', 'c', 'd', 'e', 'g'], False, ['a', 'b', 'c', 'd', 'e', 'g']]
[all_cores(seven, lamps), in_all_cores(seven, lamps)]
# [[['a', 'b', 'c', 'd', 'e', 'g']], ['a', 'b', 'c', 'd', 'e', 'g']]
lamps = lamps + ["h"]
tree = Net(lamps, [("a", "c"), ("a", "h"), ("b", "d"), ("b", "e"), ("c", "d"), ("c", "f"), ("d", "g")], {lamp: "odd" for lamp in lamps})
left_of(tree, lamps, lamps)
# ['a', 'b', 'c', 'd', 'f', 'h']
row = Net(["a", "b", "c"], [("a", "b"), ("b", "c")], {"a": "odd", "b": "even", "c": "odd"})
[kind_of(row, ["a", "b", "c"]), core_of(row, ["a", "b", "c"]), left_of(row, ["a", "b", "c"], ["b", "c", "a"]), in_all_cores(row, ["a", "b", "c"])]
# ['paired', None, ['a', 'b', 'c'], []]
"""

TEMPERS = """
from oddlamps.nets import Net
from oddlamps.tempers import are_heights, even_points, heights, is_odd_round, is_round, is_round_road, is_round_stock, marked_by, odd_round, round_road, round_stock, temper
star = Net(["a", "b", "c", "m"], [("a", "m"), ("b", "m"), ("c", "m")], {"a": "odd", "b": "odd", "c": "odd", "m": "odd"})
whole, points = ["a", "b", "c", "m"], {"a": (0, 2), "b": (0, 2), "c": (1, 3), "m": (0, 1)}
[is_round(star, whole, points, ["a", "b"]), is_round(star, whole, points, ["a", "c"]), round_stock(star, whole, points), temper(star, whole, [])]
# [True, False, [['a', 'b']], 'even']
flat = heights(star, whole, points, [])
[flat, are_heights(star, whole, points, [], {0: 1, 1: 1, 2: 1, 3: 1}), marked_by(star, whole, points, ["a"], flat), marked_by(star, whole, points, ["a", "b"], flat)]
# [{0: 0, 1: 0, 2: 0, 3: 0}, True, [0, 2], []]
[round_road(star, whole, points, [], ["a", "b"]), is_round_road(star, whole, points, ["m"], ["a", "b"], ["a", "b"]), odd_round(star, whole, points, ["m"])]
# [None, True, None]
row, doubled, spread = Net(["a", "b", "m"], [("a", "m"), ("b", "m")], {"a": "odd", "b": "even", "m": "odd"}), {"a": (0, 2), "b": (0, 2), "m": (0, 1)}, {"a": (0, 2), "b": (1, 3), "m": (0, 1)}
[heights(row, ["a", "b", "m"], doubled, []), is_odd_round(row, ["a", "b", "m"], doubled, [], ["a", "b"]), heights(row, ["a", "b", "m"], spread, []), temper(row, ["a", "b", "m"], [])]
# [None, True, {0: 0, 1: 0, 2: 0, 3: 1}, 'even']
five = ["a", "b", "c", "d", "e"]
ring = Net(five, [("a", "b"), ("a", "e"), ("b", "c"), ("c", "d"), ("d", "e")], {"a": "even", "b": "odd", "c": "odd", "d": "odd", "e": "odd"})
[temper(ring, five, []), even_points(ring, five, []), is_round_stock(ring, five, {"a": (0, 1), "b": (1, 2), "c": (2, 3), "d": (3, 4), "e": (0, 4)}, [five])]
# ['twisted', None, True]
"""

JOINING = """
from oddlamps.joining import helping_lamps, is_nearest_joined, is_why_apart, joined, joined_pieces, joined_with, least_unlike, nearest_joined, parting_pieces, why_apart
from oddlamps.nets import Net
lamps = ["a", "b", "c", "d", "e", "f"]
six = Net(lamps, [("a", "b"), ("b", "c"), ("c", "d"), ("c", "f"), ("d", "e")], {lamp: "odd" for lamp in lamps})
[joined(six, ["a"], ["c"]), joined(six, ["a"], ["a", "c"]), joined(six, ["a", "c"], ["b", "f"]), joined(six, [], ["a"])]
# [True, False, True, False]
[why_apart(six, ["a"], ["c"]), is_why_apart(six, ["a"], ["a", "c"], ("sign", lamps)), is_why_apart(six, [], ["a", "c"], ("sign", lamps)), is_why_apart(six, [], ["a", "c"], ("still", lamps))]
# [None, True, False, True]
[least_unlike(six, ["a"], ["a", "c"]), is_nearest_joined(six, ["a"], ["a", "c"], ["c"]), is_nearest_joined(six, ["a"], ["a", "c"], ["a", "b"]), parting_pieces(six, ["a"], ["a", "c"]) == [lamps]]
# [1, True, False, True]
pair = Net(["a", "b"], [("a", "b")], {"a": "odd", "b": "odd"})
[nearest_joined(pair, [], ["b"]), is_why_apart(pair, [], ["a"], ("marks", ["a", "b"], {"a": (0, 1), "b": (1, 2)}, {0: 0, 1: 0, 2: 0})), joined_pieces(pair, ["a"], ["b"])]
# [[], True, [['a', 'b']]]
row = Net(["a", "b", "c", "s"], [("a", "b"), ("b", "c"), ("b", "s")], {"a": "odd", "b": "odd", "c": "odd", "s": "stuck"})
[joined(row, [], ["b"]), joined(row, ["s"], ["b", "s"]), helping_lamps(row, [], ["b"]), joined_with(row, ["a"], ["c"], "s"), is_why_apart(row, ["s"], ["b"], ("stuck", "s"))]
# [False, True, ['s'], False, True]
"""

WAYS = """
from oddlamps.nets import Net
from oddlamps.ways import is_piece_way, is_way, piece_bound, piece_way, way_between, way_bound
lamps = ["a", "b", "c", "d", "e", "f"]
six = Net(lamps, [("a", "b"), ("b", "c"), ("c", "d"), ("d", "e"), ("c", "f")], {lamp: "odd" for lamp in lamps})
[piece_bound(six, lamps), way_bound(six), way_between(six, [], ["a"]), is_way(six, ["a"], ["a"], []), is_way(six, ["a"], ["b"], ["b", "a"])]
# [16, 16, None, True, True]
pair = Net(["a", "b", "s"], [("a", "b"), ("b", "s")], {"a": "odd", "b": "odd", "s": "stuck"})
[piece_bound(pair, ["a", "b"]), is_piece_way(pair, ["a", "b"], ["a"], ["a", "b"], piece_way(pair, ["a", "b"], ["a"], ["a", "b"])), way_between(pair, ["a"], ["a", "s"])]
# [12, True, None]
is_piece_way(pair, ["a", "b"], ["s"], ["a", "b", "s"], ["b", "a"])
# True
"""

ROADS = """
from oddlamps.nets import Net
from oddlamps.roads import by_deeds, class_of, farthest, fewest_deeds, first_deeds, is_farthest, is_shortest_road, many_shortest, width
lamps = ["a", "b", "c", "d", "e", "f"]
six = Net(lamps, [("a", "b"), ("b", "c"), ("c", "d"), ("c", "f"), ("d", "e")], dict([(lamp, "odd") for lamp in lamps]))
[fewest_deeds(six, ["a"], ["a", "c", "e"]), many_shortest(six, ["a"], ["a", "c", "e"]), fewest_deeds(six, [], ["a"]), many_shortest(six, [], ["a"]), farthest(six, ["a"])]
# [10, 12, None, 0, ['a', 'c', 'e']]
[by_deeds(six, ["a"]), by_deeds(six, ["a", "c"]), is_farthest(six, ["a", "c"], ["d", "f"]), class_of(six, [])]
# [[1, 1, 2, 3, 5, 6, 8, 5, 3, 1, 1], [1, 2, 4, 4, 4, 2, 2, 2, 2, 1, 1, 1, 1], True, [[]]]
[many_shortest(six, ["c"], ["b", "c", "d"]), first_deeds(six, ["c"], ["b", "c", "d"]), is_shortest_road(six, ["c"], ["b", "c", "d"], ["d", "b"]), is_shortest_road(six, ["c"], ["c"], [])]
# [2, ['b', 'd'], True, True]
"""

NUMBERS = """
from oddlamps.nets import Net
from oddlamps.numbers import by_planes, by_sign, class_number, class_size, classes_by_size, still_by_sign, whole_number, whole_size
star = Net(["a", "b", "c", "m"], [("a", "m"), ("b", "m"), ("c", "m")], {"a": "odd", "b": "odd", "c": "odd", "m": "odd"})
piece = ["a", "b", "c", "m"]
[by_sign(star, piece, []), by_planes(star, piece, [], [(["a"], ["m"])], [["a", "b"], ["a", "c"]]), class_size(star, piece, ["a"]), class_size(star, piece, []), class_number(star, piece, []), classes_by_size(star, piece, [])]
# [(4, 12), (4, 12), 12, 1, 5, [(1, 4), (12, 1)]]
six = Net(list("abcdef"), [("a", "b"), ("b", "c"), ("c", "d"), ("c", "f"), ("d", "e")], dict([(lamp, "odd") for lamp in "abcdef"]))
[by_sign(six, list("abcdef"), []), class_size(six, list("abcdef"), ["a"]), class_size(six, list("abcdef"), ["a", "c"]), whole_number(six, ["a"]), still_by_sign(star, piece, [])]
# [(28, 36), 36, 27, 3, (4, 0)]
"""

SEEN = """
from oddlamps.nets import Net
from oddlamps.seen import can_show, is_why_dark, lit_numbers, many_shown
pair = Net(["a", "b"], [("a", "b")], {"a": "odd", "b": "odd"})
[can_show(pair, ["a"], (["a", "b"], [])), can_show(pair, ["a"], ([], ["a", "b"])), many_shown(pair, ["a"], ([], [])), lit_numbers(pair, ["a"])]
# [True, False, 3, [1, 2]]
is_why_dark(pair, [], (["a"], []), ("still", ["a", "b"]))
# True
six = Net(list("abcdef"), [("a", "b"), ("b", "c"), ("c", "d"), ("c", "f"), ("d", "e")], dict([(lamp, "odd") for lamp in "abcdef"]))
[many_shown(six, ["a"], ([], [])), many_shown(six, ["a", "c"], ([], [])), can_show(six, ["a"], (["a"], ["b", "c", "d", "e", "f"])), can_show(six, ["a", "c"], (["a"], ["b", "c", "d", "e", "f"]))]
# [36, 27, True, False]
"""

FAMILIES = """
from oddlamps.families import comb_net, fork, forms, is_fork, is_in_order, is_tree, kind_by_forms, ring_net, row_net, shorn, star_net, wheel_net
odd = {lamp: "odd" for lamp in "abcdef"}
row = row_net(["c", "a", "b"], {lamp: "odd" for lamp in "abc"})
ring = ring_net(["a", "b", "c", "d"], {lamp: "odd" for lamp in "abcd"})
comb = comb_net(list("abcdef"), odd)
[row.ties(), forms(row, ["a", "b", "c"]), forms(ring, ["a", "b", "c", "d"]), is_in_order(ring, ["a", "b", "c", "d"], "ring", ["b", "a", "d", "c"])]
# [[('a', 'b'), ('a', 'c')], ['row', 'star'], ['ladder', 'ring'], True]
[comb.ties(), forms(comb, list("abcdef")), kind_by_forms(comb, list("abcdef")), is_tree(comb, list("abcdef")), fork(comb, list("abcdef"))]
# [[('a', 'b'), ('a', 'd'), ('b', 'c'), ('b', 'e'), ('c', 'f')], ['comb'], 'core', True, ('b', 'a', 'c', 'e')]
star = star_net(["m", "a", "b", "c"], {lamp: "even" for lamp in "abcm"})
[forms(star, ["a", "b", "c", "m"]), fork(star, ["a", "b", "c", "m"]), shorn(star, ["a", "b", "c", "m"]), is_tree(ring, ["a", "b", "c", "d"])]
# [['star'], None, ['a', 'm'], False]
wheel = wheel_net(list("habcde"), {lamp: "odd" for lamp in "abcdeh"})
[forms(row_net(["z"], {"z": "odd"}), ["z"]), forms(wheel, list("abcdeh")), kind_by_forms(wheel, list("abcdeh")), is_fork(comb, list("abcdef"), ("b", "a", "e", "c"))]
# [['full', 'row', 'star'], ['wheel'], 'core', False]
"""

CHANGES = """
from oddlamps.changes import changed, changed_by, keeps_paired, kinds_changed, linking_ties, needed_ties, parting_lots, setting_along, tie_sets_number
from oddlamps.nets import Net
four = Net(list("abcd"), [("a", "b"), ("b", "c"), ("c", "d")], {lamp: "odd" for lamp in "abcd"})
five = changed(four, ("put", "e", "odd", ["d"]))
[five.ties()[-1], setting_along(four, [("put", "e", "odd", ["d"]), ("take", "a")], ["a", "b"]), tie_sets_number(four, list("abcd")), tie_sets_number(five, list("abcde")), keeps_paired(five, list("abcde"), ["c"])]
# [('d', 'e'), ['b'], 15, 21, False]
[kinds_changed(five, [("put", "f", "even", ["c"])]), kinds_changed(five, [("tie", "a", "e")]), needed_ties(four, ["a"], ["c"]), linking_ties(five, ["a"], ["a", "c", "e"])]
# [(['a', 'b', 'c', 'd', 'e'], []), ([], []), [('a', 'b'), ('b', 'c')], [('a', 'd'), ('b', 'e')]]
[parting_lots(four, [("untie", "b", "c"), ("tie", "a", "d"), ("wish", "c", "even")], ["a"], ["d"]), changed_by(four, [("wish", "a", "stuck")]).wishes()["a"]]
# [[[0], [2]], 'stuck']
"""

GLUE = """
from oddlamps.families import row_net
from oddlamps.glue import are_lone_points, leafy_points, lone_points, met_kind, tied, tied_kind
from oddlamps.nets import Net
row = row_net(list("abcd"), {lamp: "odd" for lamp in "abcd"})
alone = Net(["v"], [], {"v": "odd"})
pair = row_net(["v", "w"], {"v": "odd", "w": "even"})
[tied(row, alone, "c", "v").ties(), tied_kind(row, alone, "c", "v"), tied_kind(row, pair, "c", "v"), tied_kind(row, pair, "a", "v")]
# [[('a', 'b'), ('b', 'c'), ('c', 'd'), ('c', 'v')], 'paired', 'core', 'paired']
points = {"a": (0, 1), "b": (1, 2), "c": (2, 3), "d": (3, 4)}
[lone_points(row, list("abcd"), "c"), are_lone_points(row, list("abcd"), "a", points), are_lone_points(row, list("abcd"), "b", points), leafy_points(row, list("abcd"), "c") is None]
# [None, True, False, False]
[met_kind(row, row_net(["c", "v"], {"c": "odd", "v": "odd"}), "c"), met_kind(row, row_net(["c", "v", "w"], {"c": "odd", "v": "odd", "w": "odd"}), "c"), met_kind(row, row_net(["a", "v", "w"], {"a": "odd", "v": "odd", "w": "odd"}), "a")]
# ['paired', 'core', 'paired']
"""

HALL = """
from oddlamps.hall import Hall, replayed
from oddlamps.nets import Net
pair = Net(["a", "b"], [("a", "b")], {"a": "odd", "b": "odd"})
hall = Hall()
[hall.put(pair, ["a"]), hall.ready_there(0), hall.switch(0, "b"), hall.switch(0, "a"), hall.setting_there(0), hall.aim(0, ["a"]), hall.is_met(0)]
# [0, ['b'], ['a'], [], ['b'], None, False]
[hall.is_way(0, hall.way(0)), hall.is_way(0, ["b", "a"]), hall.lead(0, ["a", "b"]), hall.is_met(0), hall.let_go(0), hall.tie(0, ("a", "b")), hall.ready_there(0)]
# [True, False, None, True, None, None, []]
[hall.put(Net(["m", "x"], [("m", "x")], {"m": "stuck", "x": "even"}), []), hall.ready_there(1), hall.push(1, "m"), hall.rewish(1, "x", "odd"), hall.ready_there(1)]
# [1, ['x'], [], None, ['x']]
[hall.lay(0, 1), hall.spots(), hall.net_there(0).lamps(), hall.setting_there(0), hall.undo(), hall.alike_spots(1), len(hall.log())]
# [None, [0], ['a', 'b', 'm', 'x'], ['a', 'm'], None, [], 10]
replayed(Hall(), hall.log()).setting_there(1)
# ['m']
"""

SCRIPTS = r"""
from oddlamps.hall import Hall
from oddlamps.nets import Net
from oddlamps.scripts import end_of, play, read_script, script_text, shortened
pair = Net(["a", "b"], [("a", "b")], {"a": "odd", "b": "odd"})
day = [("put", pair, ["a"]), ("switch", 0, "a"), ("ready_there", 0), ("try", [("switch", 0, "b"), ("aim", 0, ["b"])]), ("switch", 0, "b"), ("undo",), ("aim", 0, [])]
play(Hall(), day)
# [('put', 0), ('refused', 'Refused'), ('told', ['b']), ('tried', [('told', ['a']), ('done',)]), ('told', ['a']), ('done',), ('refused', 'Refused')]
[end_of(day) == {0: (pair, ["a"], None)}, shortened(day) == [day[0], day[4], day[5]], read_script(script_text(day)) == day]
# [True, True, True]
script_text([("lead", 0, ["a", "b"]), ("tie", 0, ("a", "b")), ("rewish", 0, "a", "even"), ("aim", 0, []), ("try", [("undo",)])])
# 'lead 0 a b\ntie 0 a b\nrewish 0 a even\naim 0\ntry\n  undo\nend'
script_text([("put", pair, ["a"]), ("try", [])])
# 'put a\n  a odd b\n  b odd\nend\ntry\nend'
"""

PAPERS = r"""
from oddlamps.nets import Net
from oddlamps.papers import change_text, net_text, read_change, read_net, read_road, road_text
net = Net(["b", "a", "c"], [("a", "c"), ("a", "b")], {"a": "odd", "b": "stuck", "c": "even"})
[net_text(net), read_net(net_text(net)) == net, change_text(("put", "d", "odd", ["a", "c"])), read_change("put d odd"), road_text(["a", "b", "a"]), read_road("")]
# ['a odd b c\nb stuck\nc even', True, 'put d odd a c', ('put', 'd', 'odd', []), 'a b a', []]
"""


class Examples(unittest.TestCase):
    def test_section_3(self):
        self.assertEqual(run_examples(self, NETS), 3)

    def test_section_4(self):
        self.assertEqual(run_examples(self, SETTINGS), 4)

    def test_section_5(self):
        self.assertEqual(run_examples(self, LISTS), 3)

    def test_section_6(self):
        self.assertEqual(run_examples(self, SIGNS), 2)

    def test_section_7(self):
        self.assertEqual(run_examples(self, WORKS), 3)

    def test_section_8(self):
        self.assertEqual(run_examples(self, POINTS), 3)

    def test_section_9(self):
        self.assertEqual(run_examples(self, CORES), 4)

    def test_section_10(self):
        self.assertEqual(run_examples(self, TEMPERS), 5)

    def test_section_11(self):
        self.assertEqual(run_examples(self, JOINING), 5)

    def test_section_12(self):
        self.assertEqual(run_examples(self, WAYS), 3)

    def test_section_13(self):
        self.assertEqual(run_examples(self, ROADS), 3)

    def test_section_14(self):
        self.assertEqual(run_examples(self, NUMBERS), 2)

    def test_section_15(self):
        self.assertEqual(run_examples(self, SEEN), 3)

    def test_section_16(self):
        self.assertEqual(run_examples(self, FAMILIES), 4)

    def test_section_17(self):
        self.assertEqual(run_examples(self, CHANGES), 3)

    def test_section_18(self):
        self.assertEqual(run_examples(self, GLUE), 3)

    def test_section_19(self):
        self.assertEqual(run_examples(self, HALL), 5)

    def test_section_20(self):
        self.assertEqual(run_examples(self, SCRIPTS), 4)

    def test_section_21(self):
        self.assertEqual(run_examples(self, PAPERS), 1)


if __name__ == "__main__":
    unittest.main()
