"""Rows as in rows.py for tempers, joining, ways and roads."""

from oddlamps.errors import InvalidHeights, InvalidLamps, InvalidSetting
from oddlamps.joining import (
    helping_lamps, is_nearest_joined, is_why_apart, joined, joined_pieces, joined_with, least_unlike, nearest_joined,
    parting_pieces, why_apart)
from oddlamps.roads import (
    by_deeds, class_of, farthest, fewest_deeds, first_deeds, is_farthest, is_shortest_road, many_shortest,
    shortest_road, width)
from oddlamps.tempers import (
    are_heights, even_points, heights, is_odd_round, is_round, is_round_road, is_round_stock, marked_by, odd_round,
    round_road, round_stock, temper)
from oddlamps.ways import is_piece_way, is_way, piece_bound, piece_way, way_between, way_bound
from rows import NET, PIECE, POINTS, SETTING, WRONG_RISING, WRONG_WORDS, net, piece, points, setting
from rows_lists import WRONG_LISTS, stuck

# With the stuck lamp s dark b has the turn 1: doubled with a it makes an odd round, spread from it heights fit.
DARK = ("setting", ["b", "x"], InvalidSetting, WRONG_RISING)
SPREAD = {"m": (0, 1), "a": (0, 2), "c": (0, 2), "b": (1, 3)}
HEIGHTS = {3: 1, 0: 0, 1: 0, 2: 0}
FLAT = {0: 1, 1: 1, 2: 1, 3: 1}
WRONG_HEIGHTS = [
    0, "0", [], {}, [0, 0, 0, 1], (0, 0, 0, 1), [(0, 0), (1, 0), (2, 0), (3, 1)], NET, POINTS, {**HEIGHTS, 0: 1}, FLAT,
    {**HEIGHTS, 3: 0}, {**HEIGHTS, 3: True}, {**HEIGHTS, 2: False}, {**HEIGHTS, 4: 0}, {0: 0, 1: 0, 2: 0},
    {**HEIGHTS, 3: 2},
    {0: 2, 1: 2, 2: 2, 3: 3}, {0: -1, 1: -1, 2: -1, 3: 0}, {0: 0, True: 0, 2: 0, 3: 1}, {False: 0, 1: 0, 2: 0, 3: 1},
    {"0": 0, "1": 0, "2": 0, "3": 1}, {0: 0, 1: 0, 2: 0, "3": 1}, {**HEIGHTS, 3: None}, {**HEIGHTS, 3: [1]},
    {**HEIGHTS, 3: "1"}, {0: 0, 1: 0, 2: 0, 4: 1}, {-1: 0, 0: 0, 1: 0, 2: 1}, {**HEIGHTS, None: 1}]
WRONG_ROUNDS = WRONG_LISTS + [["a"], ["m"], ["a", "c"], ["a", "b", "c"], ["a", "b", "m"], ["b", "a"], ("a", "b"), "ab",
                              PIECE, ["a", "b", "s"], ["x"]]
WRONG_STOCKS = [0, [], {}, ["a", "b"], (["a", "b"],), [("a", "b")], [["b", "a"]], [[]], [["a", "b"], []], [["a"]], NET,
                [["a", "b"], ["a", "b"]], [["a", "c"]], [["a", "b"], ["a", "c"]], [None], ["ab"], [["a", "b", "s"]]]
WRONG_ROADS = WRONG_WORDS[:2] + WRONG_WORDS[3:] + ["ma", ("m", "a"), ["s"], ["m", "s"], ["a"], ["m", "t"], ["b", "m"]]
rounds = ("lamps", ["a", "b"], InvalidLamps, WRONG_ROUNDS)
round_call = [net, piece, points, setting, rounds]

BEHIND = ["a", "b", "m", "s", "x"]
APART = ["a", "c", "s", "x"]
one = ("one", SETTING, InvalidSetting, WRONG_RISING)
other = ("other", BEHIND, InvalidSetting, WRONG_RISING)
apart = ("other", APART, InvalidSetting, WRONG_RISING)
PAPER = ("marks", PIECE, POINTS, FLAT)
WRONG_PAPERS = [
    0, "stuck", ("stuck",), ["stuck", "s"], ("stuck", "s"), ("stuck", "t"), ("stuck", "a"), ("stuck", "z"),
    ("stuck", None), ("stuck", ["s"]), ("still",), ["still", PIECE], ("still", tuple(PIECE)), ("still", ["x", "y"]),
    ("still", PIECE[::-1]), ("still", None), ("still", PIECE, POINTS), ("sign", ["x", "y"]), ("sign", ["a", "b"]),
    ("sign", "abcm"), ("marks", PIECE), ("marks", PIECE, POINTS), ("marks", PIECE, POINTS, {}),
    ("marks", PIECE, POINTS, HEIGHTS), list(PAPER), PAPER + (0,),
    ("marks", PIECE, POINTS, {0: True, 1: True, 2: True, 3: True}), ("marks", PIECE, list(POINTS.items()), FLAT),
    ("marks", PIECE, {**POINTS, "a": (0, 3)}, FLAT), ("mark", PIECE, POINTS, FLAT), ("Still", PIECE), (PIECE, "still"),
    ("marks", ["x", "y"], {"x": (0, 1), "y": (1, 2)}, {0: 0, 1: 1, 2: 0}), NET, ("marks", None, None, None),
    ("still", [PIECE]),
    ("marks", PIECE, None, FLAT), ("marks", PIECE, POINTS, None), (None, PIECE), (NET, PIECE), {"still": PIECE}]
pair = [net, one, other]
HERE = [net, ("setting", SETTING, InvalidSetting, WRONG_RISING)]

ROWS = [
    (is_round, [net, piece, points, ("value", ["a", "b"], None, WRONG_ROUNDS)]), (round_stock, [net, piece, points]),
    (is_round_stock, [net, piece, points, ("value", [["a", "b"]], None, WRONG_STOCKS)]),
    (odd_round, [net, piece, points, setting]), (odd_round, [net, piece, points, DARK]),
    (is_odd_round, [net, piece, points, DARK, ("value", ["a", "b"], None, WRONG_ROUNDS + [[]])]),
    (temper, [net, piece, setting]), (even_points, [net, piece, DARK]), (heights, [net, piece, points, setting]),
    (heights, [net, piece, points, DARK]),
    (are_heights, [net, piece, ("points", SPREAD) + points[2:], DARK, ("value", HEIGHTS, None, WRONG_HEIGHTS)]),
    (marked_by, [net, piece, ("points", SPREAD) + points[2:], DARK, ("value", HEIGHTS, InvalidHeights, WRONG_HEIGHTS)]),
    (round_road, round_call),
    (is_round_road, round_call + [("value", ["m", "a", "b", "m"], None, WRONG_ROADS + [
        [], ["m"], ["m", "a"], ["m", "a", "b"], ["m", "a", "b", "m", "m"], ["m", "a", "b", "x", "m"], ["y", "y"],
        ["m", "a", "b", "m", "y", "y"], ("m", "a", "b", "m")])]),
    (joined, pair), (joined, [net, one, apart]), (joined_pieces, pair), (parting_pieces, pair),
    (why_apart, [net, one, apart]),
    (is_why_apart, [net, one, apart, ("value", PAPER, None, WRONG_PAPERS)]), (nearest_joined, [net, one, apart]),
    (is_nearest_joined, [net, one, apart, (
        "value", nearest_joined(NET, SETTING, APART), None, WRONG_RISING + [APART, ["b", "s", "x", "y"], [], ["m"]])]),
    (least_unlike, [net, one, apart]), (joined_with, pair + [stuck]), (helping_lamps, pair),
    (piece_bound, [net, piece]), (way_bound, [net]), (piece_way, [net, piece, one, other]),
    (is_piece_way, [net, piece, one, other, ("value", ["m", "a"], None, WRONG_ROADS + [
        [], ["m"], ["m", "a", "c"], ["m", "a", "y", "y"], ["y", "m", "a", "y"], ("m", "a")])]),
    (way_between, pair), (is_way, pair + [("value", ["m", "m", "m", "a"], None, WRONG_ROADS + [
        [], ["m"], ["m", "a", "c"], ["m", "a", "y"], ("m", "a"), ["m", "m"] * 30 + ["m", "a"]])]),
    (fewest_deeds, pair), (shortest_road, pair), (shortest_road, [net, one, apart]),
    (is_shortest_road, pair + [("value", ["m", "a"], None, WRONG_ROADS + [
        [], ["m"], ["m", "a", "c"], ["m", "a", "y"], ("m", "a"), ["m", "m", "m", "a"], ["y", "y", "m", "a"]])]),
    (many_shortest, pair), (first_deeds, pair), (class_of, HERE), (by_deeds, HERE), (farthest, HERE),
    (is_farthest, HERE + [("value", farthest(NET, SETTING), None, WRONG_RISING + [SETTING, BEHIND, APART, []])]),
    (width, HERE),
]
