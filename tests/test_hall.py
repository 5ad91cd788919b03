"""Points [91] to [99]: a hall against an own list of what it holds, its blocks, copies, what is undone, and logs."""

import random
import unittest

import rows
from helpers import Net, all_lots, frozen, made_net, own_reached, spoil
from oddlamps.errors import (
    InvalidHall, InvalidLamp, InvalidLog, InvalidNet, InvalidRoad, InvalidSetting, InvalidSpot, InvalidTies,
    InvalidWishes, NothingToRedo, NothingToUndo, Refused, Unlike)
from oddlamps.hall import Hall, replayed
from own_hall import (
    ASKINGS, NETS, OwnHall, check_alike, drawn_command, own_way_ends, what_is_told, what_own_tells)

PAIR, STREET = made_net("ab", "ab"), made_net("abs", "ab bs", "!s")
# The parameters of each method behind the hall itself, with the errors of wrong ones.
PARAMETERS = {
    "put": [("net", InvalidNet), ("setting", InvalidSetting)], "take": [("spot", InvalidSpot)], "spots": [],
    "net_there": [("spot", InvalidSpot)], "setting_there": [("spot", InvalidSpot)],
    "aim_there": [("spot", InvalidSpot)], "switch": [("spot", InvalidSpot), ("lamp", InvalidLamp)],
    "ready_there": [("spot", InvalidSpot)], "lead": [("spot", InvalidSpot), ("road", InvalidRoad)],
    "aim": [("spot", InvalidSpot), ("setting", InvalidSetting)], "let_go": [("spot", InvalidSpot)],
    "is_met": [("spot", InvalidSpot)], "is_way": [("spot", InvalidSpot), ("value", None)],
    "way": [("spot", InvalidSpot)], "push": [("spot", InvalidSpot), ("lamp", InvalidLamp)],
    "tie": [("spot", InvalidSpot), ("tie", InvalidTies)],
    "rewish": [("spot", InvalidSpot), ("lamp", InvalidLamp), ("wish", InvalidWishes)],
    "lay": [("one", InvalidSpot), ("other", InvalidSpot)], "alike_spots": [("spot", InvalidSpot)], "trial": [],
    "attempt": [("action", None)], "copy": [], "undo": [], "redo": [], "log": []}
RIGHT = {"put": [PAIR, ["a"]], "switch": [0, "b"], "lead": [0, ["b", "a"]], "aim": [0, ["b", "s"]], "push": [0, "s"],
         "tie": [0, ("a", "s")], "rewish": [0, "a", "even"], "lay": [0, 1], "is_way": [0, []],
         "attempt": [lambda hall: hall.spots()]}


def some_hall():
    """Return a hall with two spots, one of which has an aim, and with something that was taken back."""
    hall = Hall()
    hall.put(STREET, ["a", "s"])
    hall.put(Net(["x"], [], {"x": "even"}), [])
    hall.put(PAIR, ["a"])
    hall.aim(2, ["b"])
    hall.switch(1, "x")
    hall.undo()
    return hall


def whole(hall):
    """Return all that the methods of a hall tell, undo and redo, too, on copies of it."""
    told = [frozen(hall), frozen(hall.log())]
    for word, error in (("undo", NothingToUndo), ("redo", NothingToRedo)):
        other = hall.copy()
        while True:
            try:
                getattr(other, word)()
            except error:
                break
            told.append((word, frozen(other)))
    # The next spot shows how many there have been.
    other = hall.copy()
    return told + [other.put(PAIR, [])]


class Commands(unittest.TestCase):
    def test_drawn_commands_against_an_own_list(self):
        dice, seen = random.Random(1), {}
        for _ in range(150):
            hall, own = Hall(), OwnHall()
            for _ in range(40):
                command = drawn_command(own, dice)
                told, told_by_own = what_is_told(hall, *command), what_own_tells(own, *command)
                self.assertEqual(told, told_by_own, command)
                check_alike(self, hall, own)
                seen[command[0], told[0]] = seen.get((command[0], told[0]), 0) + 1
            self.check_ways(hall, own, dice)
        self.assertTrue(set(PARAMETERS) >= {word for word, _ in seen})
        often = [key for key in seen if seen[key] >= 5]
        for word in ("put", "take", "switch", "lead", "aim", "let_go", "push", "tie", "rewish", "lay", "undo", "redo",
                     *ASKINGS):
            self.assertIn((word, "told"), often)
        for key in (("switch", "Refused"), ("aim", "Refused"), ("aim", "Unlike"), ("push", "Refused"),
                    ("tie", "Refused"), ("rewish", "Refused"), ("lay", "Refused"), ("lay", "InvalidSpot"),
                    ("let_go", "Refused"), ("lead", "InvalidRoad"), ("push", "InvalidLamp"),
                    ("redo", "NothingToRedo"), ("rewish", "InvalidWishes"), ("tie", "InvalidTies")):
            self.assertIn(key, often)

    def check_ways(self, hall, own, dice):
        for spot, (net, setting, aim) in own.now["spots"].items():
            way = hall.way(spot)
            self.assertIs(hall.is_way(spot, way), True)
            self.assertEqual(own_way_ends(net, setting, way), setting if aim is None else aim)
            for _ in range(6):
                road = [dice.choice(net.lamps()) for _ in range(dice.randint(0, 4))]
                ends = own_way_ends(net, setting, road)
                own_is = not road if aim is None else ends is not None and ends == aim
                self.assertIs(hall.is_way(spot, road), own_is)
            for value in (None, tuple(way), "ab", {}, way + ["z"], way + [None], [way]):
                self.assertIs(hall.is_way(spot, value), False)

    def test_spots_never_come_again_but_where_the_put_was_taken_back(self):
        hall = Hall()
        self.assertEqual([hall.put(PAIR, []), hall.put(PAIR, ["a"])], [0, 1])
        hall.take(1)
        self.assertEqual([hall.put(PAIR, ["b"]), hall.spots()], [2, [0, 2]])
        hall.undo()
        self.assertEqual([hall.put(STREET, []), hall.spots()], [2, [0, 2]])
        hall.undo()
        hall.undo()
        self.assertEqual([hall.spots(), hall.put(PAIR, [])], [[0, 1], 2])
        hall.lay(*[hall.put(STREET, ["s"]), hall.put(made_net("x", ""), [])])
        self.assertEqual([hall.spots(), hall.put(PAIR, [])], [[0, 1, 2, 3], 5])
        with hall.trial():
            self.assertEqual(hall.put(PAIR, []), 6)
        self.assertEqual([hall.put(PAIR, []), hall.spots()], [6, [0, 1, 2, 3, 5, 6]])

    def test_what_an_aim_forbids_and_what_it_does_not(self):
        hall = Hall()
        hall.put(STREET, ["b", "s"])
        self.assertEqual([hall.aim(0, ["s"]), hall.aim_there(0), hall.is_met(0), hall.way(0)],
                         [None, ["s"], False, ["b"]])
        hall.put(made_net("x", ""), [])
        for word, things, value in (("push", [0, "s"], 0), ("tie", [0, ("a", "s")], 0), ("rewish", [0, "a", "even"], 0),
                                    ("rewish", [0, "a", "odd"], 0), ("lay", [0, 1], 0), ("lay", [1, 0], 0)):
            with self.assertRaises(Refused) as held:
                getattr(hall, word)(*things)
            self.assertEqual(held.exception.value, value)
        self.assertEqual([hall.switch(0, "a"), hall.lead(0, ["a", "b"]), hall.is_met(0), hall.way(0)],
                         [[], None, True, []])
        hall.aim(0, ["a", "b", "s"])
        self.assertEqual([hall.aim_there(0), hall.let_go(0), hall.aim_there(0), hall.is_met(0), hall.push(0, "s")],
                         [["a", "b", "s"], None, None, True, []])
        with self.assertRaises(Refused) as held:
            hall.let_go(0)
        self.assertEqual(held.exception.value, 0)

    def test_roads_of_whatever_length_are_ways(self):
        hall = Hall()
        hall.put(PAIR, ["a"])
        hall.aim(0, ["b"])
        for many in (0, 10, 1200):
            self.assertIs(hall.is_way(0, ["b", "b"] * many + ["b", "a"]), True)
            self.assertIs(hall.is_way(0, ["b", "b"] * many + ["b"]), False)
        hall.let_go(0)
        self.assertEqual([hall.is_way(0, []), hall.is_way(0, ["b", "b"]), hall.is_way(0, ()), hall.is_way(0, None)],
                         [True, False, False, False])

    def test_ties_and_wishes_leave_what_is_lit(self):
        hall = Hall()
        hall.put(STREET, ["a", "s"])
        for tie in (("a", "s"), ("a", "b"), ("a", "s"), ("a", "b")):
            self.assertIsNone(hall.tie(0, tie))
            self.assertEqual(hall.setting_there(0), ["a", "s"])
        self.assertEqual(hall.net_there(0), STREET)
        for wish in ("even", "even", "stuck", "stuck", "odd"):
            self.assertIsNone(hall.rewish(0, "a", wish))
            self.assertEqual([hall.net_there(0).wishes()["a"], hall.setting_there(0)], [wish, ["a", "s"]])
        self.assertEqual(len(hall.log()), 10)

    def test_nets_side_by_side_and_spots_alike(self):
        hall = Hall()
        for net, setting in ((PAIR, ["a"]), (made_net("xy", "xy"), ["y"]),
                             (Net(["b", "a"], [("a", "b")], PAIR.wishes()), ["b"]), (PAIR, []), (STREET, ["a"]),
                             (made_net("bx", ""), [])):
            hall.put(net, setting)
        self.assertEqual([hall.alike_spots(spot) for spot in range(6)], [[2], [], [0], [], [], []])
        for one, other, value in ((0, 2, 2), (2, 0, 0), (0, 4, 4), (1, 5, 5), (5, 0, 0)):
            with self.assertRaises(Refused) as held:
                hall.lay(one, other)
            self.assertEqual(held.exception.value, value)
        hall.aim(2, ["a"])
        hall.aim(5, [])
        for one, other, value in ((0, 2, 2), (2, 0, 2), (2, 5, 2), (5, 2, 5), (1, 5, 5)):
            with self.assertRaises(Refused) as held:
                hall.lay(one, other)
            self.assertEqual(held.exception.value, value)
        for one, other, value in ((0, 0, 0), (9, 0, 9), (0, 9, 9), (9, 8, 9), (0, False, False), (True, 0, True)):
            with self.assertRaises(InvalidSpot) as held:
                hall.lay(one, other)
            self.assertIs(held.exception.value, value)
        self.assertIsNone(hall.lay(1, 0))
        self.assertEqual([hall.spots(), hall.setting_there(1), hall.net_there(1).ties(), hall.aim_there(1)],
                         [[1, 2, 3, 4, 5], ["a", "y"], [("a", "b"), ("x", "y")], None])

    def test_lamps_that_are_ready_now_and_were_not(self):
        hall = Hall()
        hall.put(made_net("abcms", "am bm cm ms", "b !s"), ["b", "m"])
        self.assertEqual([hall.ready_there(0), hall.switch(0, "a"), hall.ready_there(0), hall.switch(0, "a")],
                         [["a", "c", "m"], [], ["a", "c"], ["m"]])
        self.assertEqual([hall.push(0, "s"), hall.ready_there(0), hall.push(0, "s"), hall.switch(0, "m")],
                         [[], ["a", "c"], ["m"], ["b"]])


class Wrong(unittest.TestCase):
    def wrong_things(self, error):
        """Return objects that are wrong for each method, whatever is in the hall of this test."""
        if error is InvalidSpot:
            return rows.NOTHINGS + [3, 60, 10 ** 30, [0], (0,), {0: 0}, "0", some_hall()]
        if error is InvalidLamp:
            return rows.WRONG_LAMPS + rows.NOTHINGS + [some_hall()]
        if error is InvalidRoad:
            return [0, "ab", ("b", "a"), ["s"], ["a", "a"], ["x"], {}, PAIR] + rows.NOTHINGS + [some_hall()]
        if error is InvalidTies:
            return [0, "ab", ["a", "b"], ("b", "a"), ("a",), ("a", "b", "s"), ("a", "a"), ("a", "z"), ("a", "x"), {},
                    ("a", 1), [("a", "b")], PAIR] + [thing for thing in rows.NOTHINGS if thing != ("a", "b")]
        if error is InvalidWishes:
            return [0, "Odd", "red", "", ["odd"], ("odd",), {"odd": 1}, None, True, PAIR] + rows.NOTHINGS
        if error is InvalidNet:
            return rows.WRONG_NETS + rows.NOTHINGS[:20] + [some_hall()]
        return rows.WRONG_RISING + [thing for thing in rows.NOTHINGS if thing is not rows.NET]

    def test_each_wrong_argument(self):
        hall = some_hall()
        before = whole(hall)
        for word, parameters in PARAMETERS.items():
            right = RIGHT.get(word, [0])
            for at, (_, error) in enumerate(parameters):
                for wrong in self.wrong_things(error) if error else []:
                    if wrong == right[at] and type(wrong) is type(right[at]):
                        continue
                    for behind in (right[at + 1:], [None] * (len(right) - at - 1)):
                        arguments = right[:at] + [wrong] + behind
                        with self.subTest(word=word, arguments=arguments):
                            with self.assertRaises(Exception) as held:
                                getattr(hall, word)(*arguments)
                            self.assertIs(type(held.exception), error)
                            self.assertIs(held.exception.value, wrong)
        self.assertEqual(whole(hall), before)

    def test_free_and_stuck_lamps(self):
        hall = some_hall()
        for word, things, error, value in (
                ("switch", [0, "s"], InvalidLamp, "s"), ("switch", [0, "z"], InvalidLamp, "z"),
                ("switch", [0, "a"], Refused, "a"), ("switch", [0, "x"], InvalidLamp, "x"),
                ("push", [0, "a"], InvalidLamp, "a"), ("push", [2, "a"], InvalidLamp, "a"),
                ("rewish", [2, "z", "red"], InvalidLamp, "z"), ("rewish", [2, "a", "red"], InvalidWishes, "red"),
                ("rewish", [2, "a", "odd"], Refused, 2), ("tie", [2, ("a", "z")], InvalidTies, ("a", "z")),
                ("tie", [2, ("a", "b")], Refused, 2), ("aim", [0, ["a"]], Unlike, ["a"]),
                ("aim", [0, ["b"]], Unlike, ["b"]), ("aim", [0, ["s"]], Refused, ["s"]), ("let_go", [0], Refused, 0),
                ("lead", [0, ["a"]], InvalidRoad, ["a"])):
            before = whole(hall)
            with self.assertRaises(Exception) as held:
                getattr(hall, word)(*things)
            self.assertIs(type(held.exception), error, (word, things))
            self.assertIs(held.exception.value, things[[thing == value for thing in things].index(True)])
            self.assertEqual(whole(hall), before)

    def test_arguments_by_name_and_no_other_names(self):
        for word, parameters in PARAMETERS.items():
            code = getattr(Hall, word).__code__
            names = [name for name, _ in parameters]
            self.assertEqual(list(code.co_varnames[1:code.co_argcount]), names)
            if word in ("undo", "redo", "trial", "copy"):
                continue
            hall, other = some_hall(), some_hall()
            things = RIGHT.get(word, [2] if word == "let_go" else [0])[:len(names)]
            if word in ("switch", "lead", "aim"):
                hall.lead(0, [])
                things = {"switch": [2, "b"], "lead": [2, ["b", "a"]], "aim": [2, ["a", "b"]]}[word]
                other.lead(0, [])
            told = getattr(hall, word)(*things)
            self.assertEqual(frozen(getattr(other, word)(**dict(zip(names, things)))), frozen(told))
            self.assertEqual(frozen(hall), frozen(other))


class Traces(unittest.TestCase):
    def test_what_is_passed_and_what_is_told_may_be_changed(self):
        hall = Hall()
        setting, road, aim = ["a"], ["b", "a"], ["a", "b"]
        hall.put(PAIR, setting)
        hall.lead(0, road)
        hall.aim(0, aim)
        shape = whole(hall)
        for thing in (setting, road, aim):
            spoil(thing)
        for _ in range(2):
            for told in (hall.spots(), hall.setting_there(0), hall.aim_there(0), hall.ready_there(0), hall.way(0),
                         hall.alike_spots(0), hall.log(), hall.net_there(0).lamps(), hall.net_there(0).wishes()):
                spoil(told)
            self.assertEqual(whole(hall), shape)
        self.assertEqual(hall.log(), [("put", PAIR, ["a"]), ("lead", 0, ["b", "a"]), ("aim", 0, ["a", "b"])])
        log = hall.log()
        other = replayed(Hall(), log)
        spoil(log)
        self.assertEqual(whole(other), shape)

    def test_asking_is_no_command(self):
        hall = some_hall()
        before = whole(hall)
        for word in ("spots", "net_there", "setting_there", "aim_there", "ready_there", "is_met", "is_way", "way",
                     "alike_spots", "trial", "attempt", "copy", "log"):
            getattr(hall, word)(*RIGHT.get(word, [0] if PARAMETERS[word] else []))
            self.assertEqual(whole(hall), before)
        hall.redo()
        self.assertEqual(hall.log()[-1], ("switch", 1, "x"))

    def test_a_hall_is_equal_to_itself(self):
        hall = some_hall()
        self.assertTrue(hall == hall)
        self.assertFalse(hall != hall)


class Undone(unittest.TestCase):
    def test_undo_and_redo_of_whole_histories(self):
        dice = random.Random(2)
        for _ in range(20):
            hall, own, shapes = Hall(), OwnHall(), [frozen(Hall())]
            while len(shapes) < 15:
                command = drawn_command(own, dice)
                if command[0] in ("undo", "redo") + ASKINGS:
                    continue
                if what_own_tells(own, *command) == what_is_told(hall, *command) and len(own.past) == len(shapes):
                    shapes.append(frozen(hall))
            for many in (1, 3, 14):
                for back in range(many):
                    self.assertEqual(frozen(hall), shapes[14 - back])
                    self.assertIsNone(hall.undo())
                for forth in range(many):
                    self.assertEqual(frozen(hall), shapes[14 - many + forth])
                    self.assertIsNone(hall.redo())
                self.assertEqual(frozen(hall), shapes[-1])
            with self.assertRaises(NothingToRedo):
                hall.redo()
            for _ in range(14):
                hall.undo()
            with self.assertRaises(NothingToUndo):
                hall.undo()
            self.assertEqual([hall.spots(), hall.log()], [[], []])

    def test_a_new_command_behind_undo(self):
        hall = some_hall()
        hall.undo()
        self.assertEqual(hall.aim_there(2), None)
        with self.assertRaises(Refused):
            hall.switch(0, "a")
        hall.redo()
        hall.redo()
        self.assertEqual(hall.setting_there(1), ["x"])
        hall.undo()
        hall.push(0, "s")
        with self.assertRaises(NothingToRedo):
            hall.redo()


class Blocks(unittest.TestCase):
    def test_blocks_left_in_order_and_by_an_error(self):
        for at in range(30):
            hall, dice, left = some_hall(), random.Random(at), None
            before = whole(hall)
            try:
                with hall.trial() as name:
                    self.assertIs(name, hall)
                    self.change(hall, dice)
                    middle = whole(hall)
                    with hall.trial() as inner:
                        self.assertIs(inner, hall)
                        self.change(hall, dice)
                    self.assertEqual(whole(hall), middle)
                    if at % 3 == 1:
                        raise KeyError(at)
                    if at % 3 == 2:
                        hall.take(77)
            except (KeyError, InvalidSpot) as error:
                left = error
            self.assertIs(type(left), (type(None), KeyError, InvalidSpot)[at % 3])
            self.assertEqual(whole(hall), before)

    def change(self, hall, dice):
        for _ in range(6):
            command = dice.choice([("undo",), ("redo",), ("put", PAIR, ["b"]), ("push", 0, "s"), ("take", 1),
                                   ("rewish", 0, "a", "even"), ("let_go", 2), ("switch", 2, "b"), ("lay", 0, 1)])
            what_is_told(hall, *command)

    def test_an_inner_block_leaves_the_outer_one_as_it_was(self):
        hall = some_hall()
        with hall.trial():
            hall.push(0, "s")
            middle = whole(hall)
            with hall.trial():
                hall.undo()
                hall.undo()
                self.assertIsNone(hall.aim_there(2))
                hall.take(2)
            self.assertEqual(whole(hall), middle)
            with self.assertRaises(ZeroDivisionError):
                with hall.trial():
                    hall.take(0)
                    raise ZeroDivisionError
            self.assertEqual(whole(hall), middle)
        self.assertEqual(hall.setting_there(0), ["a", "s"])

    def test_undo_and_redo_within_a_block_reach_what_was_done_ahead(self):
        hall = some_hall()
        before = whole(hall)
        with hall.trial():
            hall.redo()
            self.assertEqual(hall.setting_there(1), ["x"])
            for _ in range(5):
                hall.undo()
            self.assertEqual(hall.spots(), [])
            with self.assertRaises(NothingToUndo):
                hall.undo()
            for _ in range(5):
                hall.redo()
            with self.assertRaises(NothingToRedo):
                hall.redo()
            hall.undo()
            hall.put(PAIR, [])
        self.assertEqual(whole(hall), before)
        self.assertIsNone(hall.redo())
        self.assertEqual([hall.setting_there(1), hall.put(PAIR, [])], [["x"], 3])

    def test_a_block_that_is_made_and_never_entered(self):
        hall = some_hall()
        block = hall.trial()
        hall.take(0)
        shape = whole(hall)
        with block:
            hall.take(1)
        self.assertEqual(whole(hall), shape)
        hall.trial()
        hall.take(1)
        self.assertEqual(hall.spots(), [2])

    def test_attempts(self):
        hall, calls, answer = some_hall(), [], [1, {2: []}]

        def action(given):
            calls.append(given)
            given.take(0)
            given.undo()
            given.undo()
            given.put(PAIR, ["a", "b"])
            return answer

        before = whole(hall)
        self.assertIs(hall.attempt(action), answer)
        self.assertEqual([calls[0] is hall, len(calls), answer], [True, 1, [1, {2: []}]])
        self.assertEqual(whole(hall), before)
        for error in (KeyError(3), InvalidSpot(4), RuntimeError()):
            with self.assertRaises(type(error)) as held:
                hall.attempt(lambda given, error=error: self.fail_with(given, error))
            self.assertIs(held.exception, error)
            self.assertEqual(whole(hall), before)
        self.assertIs(hall.attempt(lambda given: given), hall)
        self.assertIsNone(hall.attempt(lambda given: given.take(0)))
        told = hall.attempt(lambda given: given.attempt(lambda inner: (inner.put(PAIR, []), inner.spots())))
        self.assertEqual([told, hall.spots()], [(3, [0, 1, 2, 3]), [0, 1, 2]])

    def fail_with(self, hall, error):
        hall.take(1)
        raise error

    def test_copies_go_their_own_way(self):
        hall = some_hall()
        shape = whole(hall)
        other = hall.copy()
        self.assertEqual(whole(other), shape)
        other.redo()
        other.take(0)
        third = other.copy()
        third.undo()
        self.assertEqual([whole(hall), other.spots(), third.spots()], [shape, [1, 2], [0, 1, 2]])
        hall.undo()
        hall.take(1)
        self.assertEqual([other.setting_there(1), third.setting_there(1)], [["x"], ["x"]])

    def test_a_copy_made_within_a_block(self):
        hall = some_hall()
        shape = whole(hall)
        with hall.trial():
            hall.take(0)
            kept = hall.copy()
            hall.take(1)
            with kept.trial():
                kept.take(2)
            kept.put(PAIR, ["a", "b"])
        self.assertEqual([whole(hall), kept.spots(), kept.log()[-2:]],
                         [shape, [1, 2, 3], [("take", 0), ("put", PAIR, ["a", "b"])]])
        kept.undo()
        kept.undo()
        self.assertEqual(kept.spots(), [0, 1, 2])


class Logs(unittest.TestCase):
    def test_replayed_on_an_empty_hall_and_on_one_that_holds_something(self):
        dice = random.Random(4)
        for _ in range(20):
            hall, own = Hall(), OwnHall()
            for _ in range(25):
                command = drawn_command(own, dice)
                what_own_tells(own, *command)
                what_is_told(hall, *command)
            log = hall.log()
            empty = Hall()
            again = replayed(empty, log)
            self.assertEqual([frozen(again), whole(empty)], [frozen(hall), whole(Hall())])
            half = len(log) // 2
            begun = replayed(Hall(), log[:half])
            shape = whole(begun)
            again = replayed(begun, log[half:])
            self.assertEqual([frozen(again), whole(begun)], [frozen(hall), shape])
            for _ in log:
                again.undo()
            self.assertEqual(again.spots(), [])

    def test_what_was_taken_back_can_be_made_again_in_a_copy_without_commands(self):
        hall = some_hall()
        again = replayed(hall, [])
        self.assertEqual(whole(again), whole(hall))
        again.redo()
        self.assertEqual([again.setting_there(1), hall.setting_there(1)], [["x"], []])

    def test_a_log_in_every_form(self):
        hall = Hall()
        commands = [("put", STREET, ["b", "s"]), ("put", made_net("x", "", "x"), []), ("switch", 1, "x"),
                    ("lead", 0, ["a", "a", "a"]), ("aim", 0, ["b", "s"]), ("let_go", 0), ("push", 0, "s"),
                    ("tie", 0, ("a", "s")), ("rewish", 0, "a", "even"), ("lay", 0, 1), ("take", 0)]
        for at, (word, *things) in enumerate(commands):
            getattr(hall, word)(*things)
            self.assertEqual(frozen(hall.log()), frozen(commands[:at + 1]))
            hall.undo()
            self.assertEqual(frozen(hall.log()), frozen(commands[:at]))
            hall.redo()
        self.assertEqual(frozen(replayed(Hall(), commands).log()), frozen(commands))

    def test_logs_whose_command_raises(self):
        begun = some_hall()
        shape, wrong = whole(begun), ["z"]
        for log, error, value in (
                ([("take", 9)], InvalidSpot, 9), ([("take", 0), ("take", 0)], InvalidSpot, 0),
                ([("put", PAIR, wrong), ("take", None)], InvalidSetting, wrong),
                ([("put", wrong, wrong)], InvalidNet, wrong), ([("take", wrong)], InvalidSpot, wrong),
                ([("push", 0, "s"), ("push", 2, wrong)], InvalidLamp, wrong), ([("let_go", 0)], Refused, 0),
                ([("aim", 0, wrong)], InvalidSetting, wrong), ([("lead", 0, wrong)], InvalidRoad, wrong),
                ([("tie", 0, wrong)], InvalidTies, wrong), ([("rewish", 0, "a", wrong)], InvalidWishes, wrong),
                ([("lay", 0, wrong)], InvalidSpot, wrong), ([("switch", 0, wrong)], InvalidLamp, wrong)):
            with self.assertRaises(Exception) as held:
                replayed(begun, log)
            self.assertIs(type(held.exception), error)
            self.assertIs(held.exception.value, value)
            self.assertEqual(whole(begun), shape)

    def test_what_is_no_log_or_no_hall(self):
        for log in (None, (), [()], [("undo",)], [("take",)], [("take", 0), ("take", 0, 0)], [["take", 0]], "take", {},
                    [("take", 9), ("ready_there", 0)], [("Take", 0)]):
            with self.assertRaises(InvalidLog) as held:
                replayed(some_hall(), log)
            self.assertIs(held.exception.value, log)
            for hall in (None, Hall, [], PAIR, "hall", Hall().trial()):
                with self.assertRaises(InvalidHall) as held:
                    replayed(hall, log)
                self.assertIs(held.exception.value, hall)


class Aims(unittest.TestCase):
    def test_aims_against_all_settings(self):
        for net in NETS:
            for setting in all_lots(net.lamps())[::3]:
                hall, reached = Hall(), own_reached(net, setting)
                hall.put(net, setting)
                for aim in all_lots(net.lamps()):
                    if tuple(aim) in reached:
                        self.assertIsNone(hall.aim(0, aim))
                        self.assertEqual([hall.aim_there(0), hall.is_met(0)], [aim, aim == setting])
                        self.assertEqual(own_way_ends(net, setting, hall.way(0)), aim)
                    else:
                        alike = [lamp for lamp in net.lamps() if net.wishes()[lamp] == "stuck"]
                        unlike = any((lamp in aim) != (lamp in setting) for lamp in alike)
                        with self.assertRaises(Unlike if unlike else Refused) as held:
                            hall.aim(0, aim)
                        self.assertIs(held.exception.value, aim)


if __name__ == "__main__":
    unittest.main()
