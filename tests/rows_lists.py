"""Rows as in rows.py for lists, signs, works and cores."""

from oddlamps.cores import all_cores, core_of, in_all_cores, is_core, kind_of, left_of
from oddlamps.errors import InvalidLamp, InvalidLamps, InvalidNet, InvalidPiece, InvalidSetting, InvalidWork
from oddlamps.lists import (
    are_planes, idle_base, is_idle, is_idle_base, is_solved, is_why_unsolved, meets_oddly, planes, rank, solved,
    still_number, still_setting, sum_of, why_unsolved)
from oddlamps.nets import Net
from oddlamps.signs import alike_stuck, sign, sign_with, signs, turn, turned_by, turns
from oddlamps.works import (
    deeds_of, exchanged, is_work, setting_exchanged, worked, worked_list)
from rows import NET, WRONG_LAMPS, WRONG_NETS, WRONG_RISING, net, piece, setting

# Lists of lamps that are in order, but not of the piece a, b, c, m.
WRONG_LISTS = WRONG_RISING + [["s"], ["a", "s"], ["x", "y"], ["a", "b", "c", "m", "s"], ["m", "a"], ["a", "c", "b"],
                              ["a", "a", "b"], ("a", "m"), [["a", "b"]], ["c", "m", "x"]]
WRONG_WORD_LISTS = [0, "a", "ab", ("a",), {"a": 1}, NET, ["b", "a"], ["a", "a"], ["A"], ["a", ""], ["a", "b", "b2"],
                    ["abcdefghi"], ["a", 1], ["a", None], [["a"]], [("a",)], ["a", "a b"]]
WRONG_BASES = [
    0, "a", [], {}, NET, [["a", "b"]], (["a", "b"], ["a", "c"]), [("a", "b"), ("a", "c")], [["a", "b"], ["a", "b"]],
    [["a", "b"], []], [["a", "b"], ["a", "c"], ["b", "c"]], [["b", "a"], ["a", "c"]], [["a", "b"], ["a", "m"]],
    [["a", "b"], ["a", "c"], []], [["a", "b"], ["a"]], [["a", "b"], "ac"], [["a", "b"], None], [["a", "b"], ["a", "z"]],
    [["a", "b"], [["a", "c"]]], {0: ["a", "b"], 1: ["a", "c"]}, [["a", "b"], ["a", "c", "s"]], [["a", "b"], ["x", "y"]]]
WRONG_PLANES = [
    0, [], {}, NET, (["a"], ["m"]), [(["a"], ["m"]), (["b"], ["m"])], [(["a"], ["b"])], [(["a"], ["m"], ["c"])],
    [[["a"], ["m"]]], ((["a"], ["m"]),), [(["a"],)], [("a", "m")], [(["a"], ("m",))], [(["a"], ["s"])], [([], ["m"])],
    [(["m", "a"], ["m"])], [(["a"], ["a"])], [(["a"], ["m"]), ([], [])], [(["a", "b"], ["m"])], [None], [(["a"], None)],
    [(["a"], ["z"])], {"a": "m"}, [(["x"], ["y"])], [(True, False)]]
WRONG_WORKS = [
    0, "am", ["m", ["a"]], ("m",), ("m", "a"), ("m", ("a",)), ("m", ["m"]), ("m", ["a", "b", "m"]), ("m", ["s"]),
    ("s", []), ("x", ["y"]), ("z", []), (["m"], ["a"]), ("m", ["a"], []), ("m", [["a"]]), ("m", [True]), ("m", None),
    (None, []), (True, []), {"m": ["a"]}, ("m", {"a": 1}), NET, ("a", ["b"]), ("a", ["m", "c", "m"]), ("", []),
    ("m", ["a", 1]), (["a", "b"], []), ("m", []) + ((),), ("m", ["a", "a", "m"])]
WRONG_FREE = WRONG_LAMPS + ["s", "t"]
WRONG_STUCK_LAMPS = WRONG_LAMPS + ["a", "b", "m", "x", "y"]
PLAIN = Net(list("abcdefgs"), [("a", "b"), ("b", "c"), ("c", "d"), ("c", "g"), ("d", "e"), ("e", "f"), ("f", "s")],
            {lamp: "stuck" if lamp == "s" else "odd" for lamp in "abcdefgs"})
SEVEN = list("abcdefg")
plain = ("net", PLAIN, InvalidNet, WRONG_NETS)
seven = ("piece", SEVEN, InvalidPiece, [
    0, "abcdefg", tuple(SEVEN), [], SEVEN[::-1], SEVEN[:6], SEVEN + ["s"], ["s"], {one: 1 for one in SEVEN}, [SEVEN],
    SEVEN + ["h"], SEVEN[1:], SEVEN[:6] + [None], SEVEN[:6] + ["f"], NET])
WRONG_CORES = [
    0, "abcdeg", tuple("abcdeg"), [], list("abcdef"), list("abcde"), SEVEN, list("bacdeg"), list("abcdes"),
    list("abceeg"), list("abdefg"), list("bcdefg"), [list("abcdeg")], {one: 1 for one in "abcdeg"}, list("abcdez"),
    NET, list("abcdg"),
    ["a", "b", "c", "d", "e", None], ["a", "b", "c", "d", "e", ["g"]]]
WRONG_ORDERS = [0, "abcdefg", tuple(SEVEN), [], SEVEN[1:], SEVEN + ["a"], SEVEN[:6] + ["a"], SEVEN + ["s"], NET,
                SEVEN[:6] + ["s"], SEVEN[:6] + [None], SEVEN[:6] + [["g"]], {one: 1 for one in SEVEN}, [SEVEN],
                SEVEN * 2]


def a_list(name, right):
    return (name, right, InvalidLamps, WRONG_LISTS)


wanted = a_list("wanted", ["a", "b", "c"])
barred = a_list("wanted", ["a"])
work = ("work", ("a", ["m", "c"]), InvalidWork, WRONG_WORKS)
free = ("lamp", "b", InvalidLamp, WRONG_FREE)
tied = ("other", "m", InvalidLamp, WRONG_FREE + ["a", "b", "c", "x", "y"])
stuck = ("lamp", "s", InvalidLamp, WRONG_STUCK_LAMPS)
two = [("one", ["b", "s"], InvalidSetting, WRONG_RISING), ("other", ["a", "s", "t"], InvalidSetting, WRONG_RISING)]

ROWS = [
    (sum_of, [("one", ["a", "q"], InvalidLamps, WRONG_WORD_LISTS),
              ("other", ["q", "z"], InvalidLamps, WRONG_WORD_LISTS)]),
    (meets_oddly, [net, piece, a_list("one", ["a", "b"]), a_list("other", ["b", "m"])]),
    (is_idle, [net, piece, (
        "value", ["a", "c"], None, WRONG_LISTS + [["a"], ["m"], ["a", "m"], ["a", "b", "c"], "ac"])]),
    (idle_base, [net, piece]), (is_idle_base, [net, piece, ("value", [["b", "c"], ["a", "b"]], None, WRONG_BASES)]),
    (rank, [net, piece]), (solved, [net, piece, wanted]), (why_unsolved, [net, piece, wanted]),
    (is_solved, [net, piece, wanted, (
        "value", ["a", "b", "m"], None, WRONG_LISTS + [[], ["a"], ["a", "m", "s"], ["a", "b", "c"], ["b", "a", "m"]])]),
    (is_why_unsolved, [net, piece, barred, (
        "value", ["a", "c"], None, WRONG_LISTS + [[], ["a"], ["b", "c"], ["c", "a"], ("a", "c"), ["a", "b", "c"]])]),
    (still_number, [net, piece, setting]), (still_setting, [net, piece, setting]), (planes, [net, piece]),
    (are_planes, [net, piece, ("value", [(["a", "b", "c"], ["c", "m"])], None, WRONG_PLANES)]),
    (turn, [net, setting, free]), (turns, [net, setting]), (turned_by, [net, stuck]), (sign, [net, piece, setting]),
    (signs, [net, setting]), (sign_with, [net, piece, setting, a_list("switched", ["a", "m"])]),
    (alike_stuck, [net] + two),
    (is_work, [net, piece, ("value", ("a", ["m", "c", "c", "m"]), None, WRONG_WORKS)]),
    (worked_list, [net, piece, work]), (worked, [net, piece, setting, work]), (deeds_of, [net, piece, setting, work]),
    (exchanged, [net, free, tied]), (setting_exchanged, [net, free, tied, setting]),
    (is_core, [plain, seven, ("value", list("abcdeg"), None, WRONG_CORES)]),
    (core_of, [plain, seven]), (core_of, [net, piece]), (kind_of, [plain, seven]), (all_cores, [plain, seven]),
    (left_of, [plain, seven, ("order", list("gfedcba"), InvalidLamps, WRONG_ORDERS)]), (in_all_cores, [plain, seven]),
]
