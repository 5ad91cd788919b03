"""Rows as in rows.py for numbers, seen, families and changes."""

from oddlamps.changes import (
    changed, changed_by, keeps_paired, kinds_changed, linking_ties, needed_ties, parting_lots, setting_along,
    tie_sets_number)
from oddlamps.errors import (
    InvalidChange, InvalidChanges, InvalidForm, InvalidHeights, InvalidLamps, InvalidSetting, InvalidShow,
    InvalidWeights, InvalidWishes)
from oddlamps.families import (
    comb_net, fork, forms, full_net, in_order, is_fork, is_in_order, is_tree, kind_by_forms, ladder_net, ring_net,
    row_net, shorn, star_net, wheel_net)
from oddlamps.nets import Net
from oddlamps.numbers import (
    by_marks, by_planes, by_sign, class_number, class_size, classes_by_size, still_by_sign, whole_number, whole_size)
from oddlamps.seen import (
    all_together, can_show, is_lightest, is_most_told, is_show, is_shown, is_so, is_why_dark, least_weight, lightest,
    lit_numbers, many_shown, most_told, shown, why_dark)
from rows import NET, PIECE, POINTS, WISHES, WRONG_RISING, net, piece, points, rising, setting
from rows_joining import BEHIND, DARK, FLAT, HEIGHTS, SPREAD, WRONG_HEIGHTS, apart, one, other
from rows_lists import WRONG_BASES, WRONG_LISTS, WRONG_PLANES, plain, seven

heights = ("heights", HEIGHTS, InvalidHeights, WRONG_HEIGHTS)
BASE = [["b", "c"], ["a", "b"]]

SHOW = (["a", "s"], ["c", "t"])
WRONG_SHOWS = [
    0, "a", [], {}, NET, ["a", "s"], [["a", "s"], ["c", "t"]], (["a", "s"],), (["a"], ["c"], []), (["a"], ("c",)),
    (("a",), ["c"]), (["s", "a"], ["c"]), (["a"], ["t", "c"]), (["a", "a"], []), ([], ["c", "c"]), (["a"], ["a"]),
    (["a", "s"], ["c", "s"]), (["z"], []), ([], ["z"]), (["a"], None), (None, ["a"]), ("as", []), ([["a"]], []),
    (["a", True], []), ([True], [False]), {0: ["a"], 1: ["c"]}, (NET, []), ({"a": 1}, []), ([], [NET]), ([], {}),
    ([], ""), (["a", None], []), ("a", "c"), ([], [], [])]
BARRED = (["a", "b"], ["c", "m"])
BAR = ("marks", PIECE, POINTS, FLAT, 4, 4)
WRONG_BARS = [
    0, "marks", [], {}, NET, list(BAR), BAR[:5], BAR + (4,), BAR[1:], ("Marks",) + BAR[1:], ("sign",) + BAR[1:],
    ("marks", PIECE), ("still", PIECE), ("sign", PIECE), ("still", ["x", "y"]), ("sign", ["x", "y"]), ("stuck", "s"),
    ("stuck", "t"), ("stuck", "a"), ("stuck", "z"), ("stuck", None), ("stuck", ["s"]), ("stuck",), ["stuck", "s"],
    BAR[:4] + (3, 4), BAR[:4] + (4, 5), BAR[:4] + (0, 0), BAR[:4] + (4, 3), BAR[:4] + ("4", 4), BAR[:4] + (None, None),
    BAR[:4] + (True, True), BAR[:4] + ([4], 4), BAR[:4] + (4, -4), BAR[:3] + (HEIGHTS, 4, 4), BAR[:3] + ({}, 4, 4),
    BAR[:3] + ({point: 0 for point in range(4)}, 4, 4), BAR[:3] + ({point: True for point in range(4)}, 4, 4),
    BAR[:2] + ({**POINTS, "a": (0, 3)}, FLAT, 4, 4), BAR[:2] + (list(POINTS.items()), FLAT, 4, 4),
    BAR[:2] + (None, FLAT, 4, 4), BAR[:1] + (tuple(PIECE),) + BAR[2:], BAR[:1] + (PIECE[::-1],) + BAR[2:],
    BAR[:1] + (None,) + BAR[2:], BAR[:1] + (["x", "y"],) + BAR[2:], BAR[:3] + (None, 4, 4), (None,) + BAR[1:],
    ("stuck",) + BAR[1:], ("stuck", "s", POINTS, FLAT, 4, 4), ("stuck", "s", None, None, None, None), ("sign",) + BAR[1:],
    ("still",) + BAR[1:], (NET,) + BAR[1:], ("marks", ["x", "y"], {"x": (0, 1), "y": (1, 2)}, {0: 0, 1: 1, 2: 0}, 2, 2)]
show = ("show", SHOW, InvalidShow, WRONG_SHOWS)
barred = ("show", BARRED, InvalidShow, WRONG_SHOWS)
MOST = most_told(NET, ["b", "s", "x"], BARRED)

WEIGHTS = {"y": -3, "a": 2, "b": 0, "c": -10 ** 9, "m": 7, "x": 1}
WRONG_WEIGHTS = [
    0, [], {}, NET, list(WEIGHTS.items()), [2, 0, -5, 7, 1, -3], WISHES, {**WEIGHTS, "s": 1}, {**WEIGHTS, "z": 1},
    {**WEIGHTS, "a": True}, {**WEIGHTS, "a": None}, {**WEIGHTS, "a": "2"}, {**WEIGHTS, "a": [2]},
    {**WEIGHTS, "a": (2,)}, {lamp: 1 for lamp in "abcmx"}, {lamp: 1 for lamp in "abcmxs"}, {**WEIGHTS, None: 1},
    {**WEIGHTS, 1: 1}, {lamp: 1 for lamp in "abcmz"}, {lamp: False for lamp in "abcmxy"}]
weights = ("weights", WEIGHTS, InvalidWeights, WRONG_WEIGHTS)
SETTING = ["b", "s", "x"]

WRONG_NEW_LAMPS = [
    0, "a", [], {}, ("a", "b", "c", "d"), NET, {lamp: 1 for lamp in "abcd"}, ["a", "b", "c", "a"], ["a", "b", "c", "D"],
    ["a", "b", "c", ""], ["a", "b", "c", 1], ["a", "b", "c", None], ["a", "b", "c", ["d"]],
    ["a", "b", "c", "abcdefghi"],
    [("a",), "b", "c", "d"], ["a b", "c"]]
FOUR = ["d", "a", "c", "b"]
FOUR_WISHES = {"c": "odd", "a": "even", "d": "stuck", "b": "odd"}
WRONG_WISHES = [
    0, "odd", [], {}, NET, list(FOUR_WISHES.items()), {**FOUR_WISHES, "e": "odd"}, {**FOUR_WISHES, "a": "Odd"},
    {**FOUR_WISHES, "a": None}, {**FOUR_WISHES, "a": True}, {lamp: "odd" for lamp in "abc"}, {"a": "odd"},
    {lamp: "odd" for lamp in "abce"}, {**FOUR_WISHES, "a": ["odd"]}, {"a": 1, "b": 1, "c": 1, "d": 1}]
WRONG_FORMS = [0, 1, "", "Row", "rows", "tree", "odd", [], ["row"], ("row",), {"row": 1}, {}, NET, "ro", "row "]
form = ("form", "star", InvalidForm, WRONG_FORMS)
WRONG_ORDERS = [0, "mabc", ("m", "a", "b", "c"), [], ["a", "b", "c", "m"], ["m", "a", "b"], ["m", "a", "b", "b"],
                ["m", "a", "b", "c", "c"], ["m", "a", "b", "s"], ["m", "a", "b", None], ["m", "a", "b", ["c"]], NET,
                {"m": 1, "a": 1, "b": 1, "c": 1}, [["m", "a", "b", "c"]], ["a", "m", "b", "c"], ["m", "a", "b", True]]
WRONG_FORKS = [
    0, "cbdg", [], {}, NET, ["c", "b", "d", "g"], ("c", "b", "d"), ("c", "b", "d", "g", "a"), ("c", "d", "b", "g"),
    ("c", "b", "g", "d"), ("c", "d", "g", "b"), ("c", "b", "d", "d"), ("c", "b", "d", "b"), ("c", "b", "b", "g"),
    ("c", "b", "d", "e"), ("b", "a", "c", "d"), ("c", "b", "d", None), ("c", "b", "d", ["g"]), ("s", "b", "d", "g"),
    ("c", "b", "d", "s"), ("z", "b", "d", "g"), (None, "b", "d", "g"), ("c", "b", "d", "z"), ("c", 1, 2, "g"), ("c", "b", None, "g"), ("c", None, "d", "g"), (["c"], "b", "d", "g"), ("c", 1, "d", "g"),
    ("c", ["b"], ["d"], "g")]

WRONG_FORM_CHANGES = [
    0, "take", [], (), {}, NET, ("take",), ("take", "a", "b"), ["take", "a"], ("take", "A"), ("take", 1),
    ("take", None), ("take", ["a"]), ("Take", "a"), ("", "a"), (None, "a"), (["take"], "a"), ("take", ""),
    ("put", "q"), ("put", "q", "odd"), ("put", "q", "odd", ["a"], []), ("put", "q", "odd", ("a",)),
    ("put", "q", "odd", ["b", "a"]), ("put", "q", "odd", ["a", "a"]), ("put", "q", "Odd", []),
    ("put", "q", None, []), ("put", "q", ["odd"], []), ("put", "q", "odd", None), ("put", "q", "odd", ["A"]),
    ("put", "q", "odd", "a"), ("put", "q", "odd", {"a": 1}), ("put", "Q", "odd", []), ("put", 1, "odd", []),
    ("put", "q", "odd", [["a"]]), ("put", "q", "odd", [1]), ("put", "q", [], "odd"), ("put", "abcdefghi", "odd", []),
    ("tie", "a"), ("tie", "c", "a"), ("tie", "a", "a"), ("tie", "a", "B"), ("tie", "a", 1), ("tie", "a", None),
    ("tie", "a", ["c"]), ("tie", ("a", "c")), ("tie", "a", "b", "c"), ("tie", 1, 2), ("untie", "m", "a"),
    ("untie", "a"), ("untie", "a", "a"), ("untie", "a", "m", "x"), ("untie", ["a"], "m"), ("untie", None, "m"),
    ("wish", "a"), ("wish", "a", "Even"), ("wish", "a", None), ("wish", "a", ["even"]), ("wish", "a", True),
    ("wish", "A", "even"), ("wish", "a", "even", "b"), ("wish", ["a"], "even"), ["wish", "a", "even"], ("a", "even"),
    ("switch", "a"), ("wish", "a", NET), (NET, "a"), ("put", NET, "odd", [])]
UNFIT_CHANGES = [
    ("put", "a", "odd", []), ("put", "s", "odd", []), ("put", "q", "odd", ["z"]), ("put", "q", "odd", ["q"]),
    ("put", "q", "odd", ["a", "q"]), ("take", "z"), ("tie", "a", "m"), ("tie", "a", "z"), ("tie", "q", "z"),
    ("untie", "a", "b"), ("untie", "a", "z"), ("untie", "q", "z"), ("wish", "z", "odd"), ("wish", "a", "odd"),
    ("wish", "s", "stuck"), ("wish", "b", "even")]
CHANGE = ("put", "q", "odd", ["b", "s", "x"])
CHANGES = [("untie", "c", "m"), CHANGE, ("tie", "c", "q"), ("wish", "s", "odd"), ("take", "t"), ("wish", "a", "stuck")]
WRONG_CHANGES = [0, "take", {}, (), NET, CHANGE, tuple(CHANGES), ("take", "a"), [CHANGES], {0: CHANGE}] + [
    CHANGES[:2] + [wrong] + CHANGES[4:] for wrong in WRONG_FORM_CHANGES]
change = ("change", CHANGE, InvalidChange, WRONG_FORM_CHANGES + UNFIT_CHANGES)
changes = ("changes", CHANGES, InvalidChanges, WRONG_CHANGES)
LOT_CHANGES = [("untie", "a", "m"), ("tie", "a", "m"), ("take", "z"), ("wish", "m", "even")]
lots = ("changes", LOT_CHANGES, InvalidChanges, WRONG_CHANGES)
HERE = [net, setting]
FOUR_LAMPS = [("lamps", FOUR, InvalidLamps, WRONG_NEW_LAMPS), ("wishes", FOUR_WISHES, InvalidWishes, WRONG_WISHES)]
TWO = [net, piece, setting]

ROWS = [
    (by_sign, TWO), (class_size, TWO), (class_number, TWO), (classes_by_size, TWO), (still_by_sign, TWO),
    (by_sign, [net, piece, DARK]), (classes_by_size, [net, piece, DARK]), (whole_size, HERE), (whole_number, HERE),
    (by_planes, TWO + [("planes", [(["a", "b", "c"], ["c", "m"])], InvalidLamps, WRONG_PLANES),
                       ("base", BASE, InvalidLamps, WRONG_BASES)]),
    (by_marks, [net, piece, DARK, ("points", SPREAD) + points[2:], heights]),
    (is_show, [net, ("value", SHOW, None, WRONG_SHOWS)]),
    (is_so, HERE + [show]), (can_show, HERE + [show]), (shown, HERE + [show]), (shown, HERE + [barred]),
    (is_shown, HERE + [("show", (["a", "s"], ["c", "t"]), InvalidShow, WRONG_SHOWS),
                       ("value", shown(NET, SETTING, SHOW), None, WRONG_RISING + [
                           SETTING, [], ["s"], ["a"], ["a", "c", "s"]])]),
    (many_shown, HERE + [show]), (why_dark, HERE + [barred]), (why_dark, HERE + [show]),
    (is_why_dark, HERE + [barred, ("value", BAR, None, WRONG_BARS)]),
    (all_together, HERE + [rising]), (most_told, HERE + [barred]),
    (is_most_told, HERE + [barred, ("value", MOST, None, WRONG_SHOWS + [
        BARRED, ([], []), (MOST[0][1:], MOST[1][1:]), (MOST[0], MOST[1] + ["x"]), MOST[::-1], list(MOST)])]),
    (least_weight, HERE + [weights]), (lightest, HERE + [weights]),
    (is_lightest, HERE + [weights, ("value", lightest(NET, SETTING, WEIGHTS), None, WRONG_RISING + [
        SETTING, BEHIND, [], ["c"]])]),
    (lit_numbers, HERE),
    (row_net, FOUR_LAMPS), (star_net, FOUR_LAMPS), (full_net, FOUR_LAMPS),
] + [(function, [("lamps", FOUR, InvalidLamps, WRONG_NEW_LAMPS + wrong), FOUR_LAMPS[1]]) for function, wrong in (
    (ring_net, [["a", "b"], ["a"]]), (wheel_net, [["a", "b", "c"], ["a", "b"], ["a"]]),
    (comb_net, [["a", "b", "c"], ["a"]]), (ladder_net, [["a", "b", "c"], ["a"], ["a", "b", "c", "d", "e"]]))] + [
    (in_order, [net, piece, form]), (in_order, [net, piece, ("form", "row", InvalidForm, WRONG_FORMS)]),
    (is_in_order, [net, piece, form, ("value", ["m", "b", "c", "a"], None, WRONG_ORDERS)]), (forms, [net, piece]),
    (kind_by_forms, [net, piece]), (is_tree, [net, piece]), (fork, [plain, seven]), (fork, [net, piece]),
    (is_fork, [plain, seven, ("value", ("c", "b", "d", "g"), None, WRONG_FORKS)]), (shorn, [net, piece]),
    (changed, [net, change]), (changed_by, [net, changes]), (setting_along, [net, changes, setting]),
    (kinds_changed, [net, changes]),
    (keeps_paired, [net, piece, ("lamps", ["a", "m"], InvalidLamps, WRONG_LISTS + [[]])]),
    (tie_sets_number, [net, piece]), (needed_ties, [net, one, other]), (linking_ties, [net, one, apart]),
    (parting_lots, [net, lots, one, other]),
]
