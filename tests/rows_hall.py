"""Rows as in rows.py for glue, papers, scripts and replayed."""

from oddlamps.errors import (
    InvalidChange, InvalidHall, InvalidLamp, InvalidLog, InvalidNet, InvalidScript, InvalidText)
from oddlamps.glue import (
    are_leafy_points, are_lone_points, leafy_points, lone_points, met, met_kind, tied, tied_kind)
from oddlamps.hall import Hall, replayed
from oddlamps.nets import Net
from oddlamps.papers import change_text, net_text, read_change, read_net
from oddlamps.scripts import end_of, script_text, shortened
from rows import NET, POINTS, SETTING, WRONG_LAMPS, WRONG_NETS, WRONG_POINTS, net, piece
from rows_lists import WRONG_FREE
from rows_seen import CHANGE, WRONG_FORM_CHANGES

TWO = Net(["p", "q", "r"], [("p", "q"), ("q", "r")], {"p": "stuck", "q": "even", "r": "odd"})
MET = Net(["b", "p", "q", "u"], [("b", "p"), ("b", "q"), ("q", "u")],
          {"b": "even", "p": "odd", "q": "even", "u": "stuck"})
one = ("one", NET, InvalidNet, WRONG_NETS)
two = ("other", TWO, InvalidNet, WRONG_NETS)
joint = ("other", MET, InvalidNet, WRONG_NETS)
WRONG_LAMPS_OF_TWO = [0, 1, "z", "pq", "Q", ["q"], {"q": "q"}, [], {}, NET, "a", "b", "s", "x", ("q",)]
WRONG_LAMPS_OF_PIECE = WRONG_LAMPS + ["s", "t", "x", "y", ("a",), ["a", "b", "c", "m"]]
HERE = [net, piece, ("lamp", "c", InvalidLamp, WRONG_LAMPS_OF_PIECE)]
POINTS_LONE = {"c": (1, 3), "a": (0, 2), "b": (0, 2), "m": (0, 1)}
WRONG_LONE = WRONG_POINTS + [{"c": (0, 2), "a": (0, 2), "b": (0, 2), "m": (0, 1)},
                             {"c": (0, 2), "a": (0, 2), "b": (1, 3), "m": (0, 1)}]
MIDDLE = [net, piece, ("lamp", "m", InvalidLamp, WRONG_LAMPS_OF_PIECE)]

WRONG_NET_TEXTS = [
    0, 1, [], {}, ["a odd"], ("a odd",), NET, "a", "a odd ", " a odd", "a  odd", "A odd", "a Odd", "a odd b", "a odd\n",
    "\na odd", "a odd\n\nb odd", "b odd\na odd", "a odd\nb odd a", "a odd b\nb odd a", "a odd b b\nb odd",
    "a odd c b\nb odd\nc odd", "a odd\na odd", "a odd a", "a\todd", "a,odd", "a odd\r\nb odd", "a b", "odd a",
    "a odd b\nb",
    "abcdefghi odd", "a1 odd", "a odd;b odd", "a odd\n b odd", "None", b"a odd".hex()]
WRONG_CHANGE_TEXTS = [
    0, 1, [], {}, NET, ["take", "a"], ("take", "a"), CHANGE, "take", "take ", " take a", "take  a", "take a ", "Take a",
    "take A", "take a b", "put", "put d", "put d Odd", "put d odd b a", "put d odd a a", "put d odd  a", "put d odd a ",
    "put d odd ", "put odd", "tie a", "tie b a", "tie a a", "tie a b c", "untie a", "untie b a", "wish a", "wish a b",
    "wish a odd even", "take a\n", "\ntake a", "take\ta", "take a\ntake b", "lead a", "put d odd [a]", "take abcdefghi"]

PAIR = Net(["a", "b", "s"], [("a", "b"), ("b", "s")], {"a": "odd", "b": "odd", "s": "stuck"})
SCRIPT = [
    ("put", PAIR, ["a"]), ("put", Net(["q"], [], {"q": "even"}), []), ("switch", 0, "b"), ("try", [
        ("lead", 0, ["a", "b"]), ("try", []), ("undo",), ("undo",), ("redo",)]), ("aim", 0, ["a"]), ("is_met", 0),
    ("let_go", 0), ("push", 0, "s"), ("tie", 0, ("a", "s")), ("rewish", 0, "a", "stuck"), ("ready_there", 0),
    ("alike_spots", 0), ("lay", 0, 1), ("undo",), ("redo",), ("take", 7), ("rewish", 0, "a", "red")]
# Each of these is none in the place of a command.
WRONG_COMMANDS = [
    None, 0, "undo", [], (), {}, NET, ["undo"], ("Undo",), ("undo", 0), ("redo", None), ("", 0), (None, 0), (["undo"],),
    ("put",), ("put", PAIR), ("put", PAIR, ["b", "a"]), ("put", PAIR, ["a", "a"]), ("put", PAIR, ("a",)),
    ("put", PAIR, ["A"]), ("put", PAIR, None), ("put", None, []), ("put", "a odd", []), ("put", PAIR, [], []),
    ("put", PAIR, [1]), ("put", PAIR, "a"), ("take",), ("take", True), ("take", -1), ("take", "0"), ("take", 0, 0),
    ("take", None), ("take", [0]), ("switch", 0), ("switch", 0, "A"), ("switch", 0, 1), ("switch", "a", 0),
    ("switch", 0, "a", "b"), ("switch", False, "a"), ("switch", 0, ["a"]), ("lead", 0), ("lead", 0, "ab"),
    ("lead", 0, ("a", "b")), ("lead", 0, ["a", None]), ("lead", 0, ["A"]), ("lead", -1, ["a"]), ("lead", 0, {}),
    ("aim", 0), ("aim", 0, None), ("aim", 0, ["b", "a"]), ("aim", 0, ["a", "a"]), ("aim", 0, ("a",)), ("let_go",),
    ("let_go", 0, None), ("let_go", True), ("push", 0), ("push", 0, None), ("push", 0, ""), ("tie", 0, ["a", "b"]),
    ("tie", 0, ("b", "a")), ("tie", 0, ("a", "a")), ("tie", 0, ("a",)), ("tie", 0, ("a", "b", "c")),
    ("tie", 0, "ab"), ("tie", 0, ("a", 1)), ("tie", 0, ("A", "b")), ("tie", ("a", "b"), 0), ("tie", 0, "a", "b"),
    ("rewish", 0, "a"), ("rewish", 0, "a", None), ("rewish", 0, "a", "Odd"), ("rewish", 0, 1, "odd"),
    ("rewish", 0, "a", ""), ("lay", 0), ("lay", 0, "1"), ("lay", 0, True), ("lay", 0, 1, 2), ("lay", -1, 0),
    ("ready_there",), ("ready_there", None), ("ready_there", 0, 0), ("is_met", True), ("is_met", -7),
    ("alike_spots", "0"), ("alike_spots",), ("spots",), ("way", 0), ("is_way", 0, []), ("log",), ("copy",),
    ("net_there", 0), ("try",), ("try", None), ("try", ("undo",)), ("try", [None]), ("try", [("undo", 1)]),
    ("try", [], []), ("try", {}), ("try", [("try", [("try", [("take", True)])])]), ("trial",), ("attempt", None)]
WRONG_SCRIPTS = [0, "", "undo", {}, (), NET, tuple(SCRIPT), {0: ("undo",)}, ("undo",), [SCRIPT]] + [
    SCRIPT[:2] + [wrong] + SCRIPT[3:] for wrong in WRONG_COMMANDS]
script = ("script", SCRIPT, InvalidScript, WRONG_SCRIPTS)

HALL = Hall()
HALL.put(PAIR, ["a"])
HALL.switch(0, "b")
LOG = [("put", NET, SETTING), ("lead", 1, ["m", "a"]), ("aim", 1, SETTING), ("let_go", 1), ("push", 1, "t"),
       ("tie", 1, ("a", "x")), ("rewish", 1, "a", "even"), ("aim", 0, ["a"]), ("switch", 0, "a"), ("take", 0)]
WRONG_LOGS = [
    0, "put", {}, (), NET, tuple(LOG), {0: LOG[0]}, LOG[0], [LOG], [None], [[]], [()], ["take"], [["take", 0]],
    [("Take", 0)], [("take",)], [("take", 0, 1)], [(None, 0)], [(["take"], 0)], [("undo",)], [("redo",)], [("try", [])],
    [("ready_there", 0)], [("is_met", 0)], [("alike_spots", 0)], [("put", NET)], [("put", NET, [], [])],
    [("switch", 0)], [("lead", 0)], [("aim", 0)], [("let_go",)], [("push", 0)], [("tie", 0, "a", "b")],
    [("rewish", 0, "a")], [("lay", 0)],
    LOG + [("undo",)], LOG + [("take", 0, 0)], [("take", None), ("take",)], [("",)], [("put", None, None, None)]]

ROWS = [
    (tied, [one, two, ("first", "s", InvalidLamp, WRONG_LAMPS), ("second", "q", InvalidLamp, WRONG_LAMPS_OF_TWO)]),
    (met, [one, joint, ("lamp", "b", InvalidLamp, WRONG_LAMPS + ["a", "p", "u", "x"])]),
    (lone_points, HERE), (leafy_points, HERE), (leafy_points, MIDDLE),
    (are_lone_points, HERE + [("value", POINTS_LONE, None, WRONG_LONE)]),
    (are_leafy_points, MIDDLE + [("value", POINTS, None, WRONG_POINTS)]),
    (tied_kind, [one, two, ("first", "b", InvalidLamp, WRONG_FREE),
                 ("second", "q", InvalidLamp, WRONG_LAMPS_OF_TWO + ["p"])]),
    (met_kind, [one, joint, ("lamp", "b", InvalidLamp, WRONG_FREE + ["a", "p", "u", "x"])]),
    (net_text, [net]), (read_net, [("text", "a odd b\nb stuck\nend even", InvalidText, WRONG_NET_TEXTS)]),
    (change_text, [("change", CHANGE, InvalidChange, WRONG_FORM_CHANGES)]),
    (read_change, [("text", "put d odd a put", InvalidText, WRONG_CHANGE_TEXTS)]),
    (script_text, [script]), (end_of, [script]), (shortened, [script]),
    (replayed, [("hall", HALL, InvalidHall, [0, "hall", [], {}, [HALL], (HALL,), {0: HALL}, NET]),
                ("log", LOG, InvalidLog, WRONG_LOGS)]),
]
