"""One row for each function: its parameters with right arguments, the errors of the wrong ones, and wrong ones.

A parameter without an error is judged: the function tells False of any wrong object.
"""

from oddlamps.errors import (
    InvalidCount, InvalidHeights, InvalidLamp, InvalidLamps, InvalidMap, InvalidNet, InvalidPiece, InvalidPoints,
    InvalidRoad, InvalidSetting, InvalidTies, InvalidWishes, LampError)
from oddlamps.nets import (
    Net, cut_to, free_lamps, hang_together, is_piece, neighbours, piece_of, pieces, renamed, side_by_side,
    stuck_lamps, without_stuck)
from oddlamps.points import (
    all_points, are_moves, are_points, are_shortest_moves, doubles, far, fewest_moves, is_paired, is_steepest,
    lamps_at, many_ways, moved, moves, points_of, put_in_order, rise, shortest_moves, steepest)
from oddlamps.settings import (
    cut_short, is_ready, is_road, is_setting, led, led_along, lit_neighbours, ready_lamps, setting_shifted, shifted,
    still_pieces, switched)

LAMPS = ["a", "b", "c", "m", "s", "t", "x", "y"]
TIES = [("a", "m"), ("b", "m"), ("c", "m"), ("b", "s"), ("s", "t"), ("s", "x"), ("x", "y")]
WISHES = {"m": "odd", "a": "odd", "b": "even", "c": "odd", "s": "stuck", "t": "stuck", "x": "odd", "y": "even"}
NET = Net(LAMPS, TIES, WISHES)
PIECE = ["a", "b", "c", "m"]
SETTING = ["b", "s", "x"]
ROAD = ["m", "a", "a", "c"]
POINTS = {"c": (1, 3), "a": (0, 2), "b": (0, 2), "m": (0, 1)}
SLOPE = {3: 2, 0: 0, 2: -1, 1: 1}

NESTED = []
for _ in range(39):
    NESTED = [NESTED]

# None of these is of a kind that any parameter wants, whatever its function.
NOTHINGS = [
    None, True, False, -1, -7, 10 ** 30, "", " ", "a b", "A", "a\n", "abcdefghi", "odd lamps", "1", (), ("a",),
    ("a", "b"), (0, 1), ((),), [None], [True], [False, True], ["a", 1], [["a"]], [("a",)], [()], [{}], [NET], (NET,),
    ["a", None], ["a", "a"], ["s", "s"], [""], ["A"], [0, 0], [True, 2], [-1], NESTED, {None: None},
    {True: 1}, {1: True}, {0: False}, {"a": None}, {"a": True}, {"a": "a", "b": "a"}, {(): []}, {"net": NET},
    {("a", "b"): {"c": [1]}}, LampError(), InvalidLamp("a"), InvalidNet(NET)]

WRONG_NETS = [0, 1, "a", [], {}, ["a"], LAMPS, TIES, WISHES, (LAMPS, TIES, WISHES), [LAMPS, TIES, WISHES], POINTS]
WRONG_LAMPS = [0, 1, "z", "am", "S", ["a"], {"a": "a"}, [], {}, NET]
WRONG_WORDS = [0, "a", [], ("a", "b"), ("a", "s"), {}, {"a": True, "s": True}, NET, [1], ["a", "b", "a"], ["z"],
               ["a", "z"], ["am"], ["a", ["b"]], [("a", "b")], ["a", None, "b"], ["a", True]]
WRONG_RISING = [lamps for lamps in WRONG_WORDS if lamps != []] + [["b", "a"], ["s", "a"], ["a", "b", "b"]]
WRONG_STUCK = WRONG_RISING + [["a"], ["a", "s"], ["t", "s"], ["s", "s"], ["s", "t", "x"], ("s", "t")]
WRONG_PIECES = WRONG_WORDS + [
    ["a"], ["a", "b"], ["a", "b", "c"], ("a", "b", "c", "m"), ["m", "c", "b", "a"], ["a", "b", "c", "m", "m"],
    ["a", "b", "c", "m", "s"], ["s"], ["t"], ["s", "t"], ["a", "b", "c", "m", "x", "y"], ["y", "x"], [["x", "y"]],
    [["a", "b", "c", "m"], ["x", "y"]], {"x": 1, "y": 1}, ["a", "b", "c", "s"], ["a", "b", "c", ("m",)]]
WRONG_POINTS = [
    0, "a", [], {}, NET, list(POINTS.items()), {"a": (0, 2)}, [(0, 2), (0, 2), (1, 3), (0, 1)],
    {"x": (0, 1), "y": (1, 2)}, {**POINTS, "x": (2, 3)}, {**POINTS, "m": (0, 2)}, {**POINTS, "a": (0, 4)},
    {**POINTS, "m": [0, 1]}, {**POINTS, "m": (False, True)}, {**POINTS, "m": (0, True)}, {**POINTS, "m": (1, 0)},
    {**POINTS, "m": (0, 0)}, {**POINTS, "m": (0, 1, 2)}, {**POINTS, "m": (0,)}, {**POINTS, "m": None},
    {**POINTS, "m": "ab"}, {**POINTS, "m": ("0", "1")}, {**POINTS, "c": (1, 4)}, {**POINTS, "c": (1, -3)},
    {**POINTS, "m": NET}, {"a": (0, 2), "b": (0, 2), "c": (1, 3), "z": (0, 1)}, {"a": (0, 2), "b": (0, 2), "m": (0, 1)},
    {lamp: (low + 1, high + 1) for lamp, (low, high) in POINTS.items()},
    {"a": (0, 2), "b": (0, 2), "c": (1, 3), None: (0, 1)}, {"a": (0, 2), "b": (0, 3), "c": (1, 3), "m": (0, 1)}]
WRONG_COUNTS = [4, 5, 60, "0", [0], (0,), {0: 0}, {}, [], NET, True, False]
WRONG_MARKS = [0, 1, "", (0, 2), {0: 0, 2: 0}, {}, NET, [4], [0, 4], [-1, 0], [2, 0], [0, 0], [0, 1, 2, 3, 4], [[0]],
               [(0, 2)], ["0"], [False], [0, True], ["a"]]
WRONG_SLOPES = [
    0, [], {}, (0, 1, -1, 2), [0, 1, -1, 2], list(SLOPE.items()), {0: 0}, {0: 0, 1: 1, 2: -1}, NET, POINTS,
    {**SLOPE, 4: 3}, {**SLOPE, 3: 3}, {**SLOPE, 2: 2}, {**SLOPE, 0: False}, {**SLOPE, 1: True}, {**SLOPE, 1: None},
    {**SLOPE, 1: "1"}, {0: 0, True: 1, 2: -1, 3: 2}, {False: 0, 1: 1, 2: -1, 3: 2}, {0: 0, 1: 1, 2: -1, "3": 2},
    {**SLOPE, 1: [1]}, {-1: 0, 0: 0, 1: 1, 2: 1}, {1: 0, 2: 0, 3: 0, 4: 0}]

net = ("net", NET, InvalidNet, WRONG_NETS)
setting = ("setting", SETTING, InvalidSetting, WRONG_RISING)
lamp = ("lamp", "b", InvalidLamp, WRONG_LAMPS)
ready = ("lamp", "m", InvalidLamp, WRONG_LAMPS + ["s", "b", "t"])
road = ("road", ROAD, InvalidRoad,
        WRONG_WORDS[:1] + WRONG_WORDS[3:] + ["a", ("m", "a"), ["s"], ["m", "s"], ["b"], ["m", "y"], ["m", "t"]])
rising = ("lamps", ["a", "s"], InvalidLamps, WRONG_RISING)
some = ("lamps", ["m", "s", "b"], InvalidLamps, WRONG_WORDS + [["m", "s", "m"]])
piece = ("piece", PIECE, InvalidPiece, WRONG_PIECES)
points = ("points", POINTS, InvalidPoints, WRONG_POINTS)
marks = ("marks", [0, 2], InvalidCount, WRONG_MARKS)
wished = ("wished", [1, 3], InvalidCount, WRONG_MARKS + [[], [1], [1, 2, 3]])
SENT = {"m": "a", "a": "m", "b": "q", "c": "c", "s": "b", "t": "abcdefgh", "x": "y", "y": "x"}
OTHER = Net(["p", "q"], [("p", "q")], {"p": "stuck", "q": "even"})
MOVING = [net, piece, points, marks, wished]
WRONG_MOVES = [
    0, "m", None, ("m", "c"), ["m"], ["m", "c", "m"], ["c", "m"], ["x"], ["s"], ["m", "m"], ["z"], [0], [["m"]], NET,
    ["m", True], [None], {"m": "c"}, ("m", "c", "a", "m"), []]

# Function, then a tuple for each parameter: its name, a right argument, the error of the wrong ones, wrong ones.
ROWS = [
    (Net, [("lamps", ["b", "s", "a"], InvalidLamps, [
               [], "abs", ("a", "b", "s"), {"a": 1, "b": 1, "s": 1}, ["a", "b", "s", "a"], ["a", "b", "S"], [["a"]],
               ["a", "b", "s", 1], ["a", "b", "s", ""], ["a", "b", "s", "abcdefghi"], ["a", "b", "s", "b2"], NET, 0]),
           ("ties", [("b", "s"), ("a", "b")], InvalidTies, [
               0, "ab", (("a", "b"),), {("a", "b"): 1}, [["a", "b"]], [("b", "a")], [("a", "a")], [("a",)], NET,
               [("a", "b", "s")], [("a", "z")], [("a", 1)], [("a", "b"), ("a", "b")], ["ab"], [("a", "b"), None],
               {}, [(1, 2)], [(["a"], ["b"])], [("a", None)]]),
           ("wishes", {"s": "stuck", "b": "even", "a": "odd"}, InvalidWishes, [
               0, "odd", [], {}, {"a": "odd", "b": "even"}, {"a": "odd", "b": "even", "s": "stuck", "t": "odd"},
               {"a": "odd", "b": "even", "t": "odd"}, {"a": "Odd", "b": "even", "s": "stuck"}, NET,
               {"a": 1, "b": "even", "s": "stuck"}, {"a": True, "b": False, "s": None},
               {"a": ["odd"], "b": "even", "s": "stuck"}, [("a", "odd"), ("b", "even"), ("s", "stuck")],
               {"a": "odd", "b": "even", None: "stuck"}, {"a": ("odd",), "b": "even", "s": NET}])]),
    (neighbours, [net, lamp]), (free_lamps, [net]), (stuck_lamps, [net]), (hang_together, [net, some]),
    (pieces, [net]), (piece_of, [net, ("lamp", "b", InvalidLamp, WRONG_LAMPS + ["s", "t"])]),
    (is_piece, [net, ("value", PIECE, None, WRONG_PIECES)]),
    (renamed, [net, ("sent", SENT, InvalidMap, [
        0, "a", [], {}, LAMPS, NET, list(SENT.items()), {**SENT, "a": "a"}, {**SENT, "a": ""}, {**SENT, "a": "A"},
        {**SENT, "a": 1}, {**SENT, "a": None}, {**SENT, "a": ["m"]}, {**SENT, "q": "zz"}, {**SENT, "a": "abcdefghi"},
        {lamp: SENT[lamp] for lamp in LAMPS[1:]}, {**{lamp: SENT[lamp] for lamp in LAMPS[1:]}, "z": "w"}, WISHES,
        {**{lamp: SENT[lamp] for lamp in LAMPS[1:]}, 1: "w"}, {**SENT, "a": True}, {**SENT, "a": ("m",)}])]),
    (cut_to, [net, some]),
    (side_by_side, [("one", NET, InvalidNet, WRONG_NETS), ("other", OTHER, InvalidNet, WRONG_NETS)]),
    (without_stuck, [net, ("lit", ["s"], InvalidLamps, WRONG_STUCK)]),
    (is_setting, [net, ("value", SETTING, None, WRONG_RISING)]),
    (lit_neighbours, [net, setting, lamp]), (is_ready, [net, setting, lamp]), (ready_lamps, [net, setting]),
    (switched, [net, setting, ready]), (still_pieces, [net, setting]),
    (is_road, [net, setting, ("value", ROAD, None, road[3])]),
    (led, [net, setting, road]), (led_along, [net, setting, road]), (cut_short, [net, setting, road]),
    (shifted, [net, rising]), (setting_shifted, [net, setting, rising]),
    (are_points, [net, piece, ("value", POINTS, None, WRONG_POINTS)]),
    (is_paired, [net, piece]), (points_of, [net, piece]), (put_in_order, [net, piece, points]),
    (many_ways, [net, piece]), (all_points, [net, piece]),
    (lamps_at, [net, piece, points, ("point", 1, InvalidCount, WRONG_COUNTS)]), (doubles, [net, piece, points]),
    (far, [net, piece, points, ("one", 0, InvalidCount, WRONG_COUNTS), ("other", 3, InvalidCount, WRONG_COUNTS)]),
    (moves, [net, piece, points, marks]),
    (moved, [net, piece, points, marks, ("lamp", "m", InvalidLamp, WRONG_LAMPS + ["a", "b", "c", "s", "x"])]),
    (are_moves, MOVING + [("value", ["m", "a", "c", "m"], None, WRONG_MOVES)]),
    (fewest_moves, MOVING), (shortest_moves, MOVING),
    (are_shortest_moves, MOVING + [
        ("value", ["m", "c", "b", "m"], None, WRONG_MOVES + [["m", "m", "m", "c", "a", "m"]])]),
    (rise, MOVING + [("slope", SLOPE, InvalidHeights, WRONG_SLOPES)]), (steepest, MOVING),
    (is_steepest, MOVING + [("value", SLOPE, None, WRONG_SLOPES + [{0: 0, 1: 0, 2: 0, 3: 0}])]),
]
