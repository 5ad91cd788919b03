"""Points [100] to [102]: scripts that are played, written, read back, bent in each part, and shortened."""

import random
import unittest

import rows
from helpers import Net, frozen, made_net, spoil, thawed
from oddlamps.errors import InvalidHall, InvalidScript, InvalidText
from oddlamps.hall import Hall
from oddlamps.papers import net_text
from oddlamps.scripts import end_of, play, read_script, script_text, shortened
from own_hall import ASKINGS, NETS, OwnHall, check_alike, drawn_command, what_own_tells
from rows_hall import PAIR, SCRIPT, WRONG_COMMANDS, WRONG_SCRIPTS
from test_hall import some_hall, whole
from test_papers import bent_texts

WORDS = {"end": "odd", "try": "even", "put": "odd", "odd": "stuck", "even": "odd"}
NAMED = Net(list(WORDS), [("end", "try"), ("even", "odd"), ("odd", "put")], WORDS)
WORDY = [("put", NAMED, ["end", "put"]), ("switch", 0, "end"), ("lead", 0, ["end", "try", "end"]), ("push", 0, "odd"),
         ("aim", 0, ["try"]), ("tie", 0, ("end", "try")), ("try", [("put", NAMED, []), ("try", []), (
             "try", [("put", NAMED, ["try"]), ("undo",)])]), ("rewish", 0, "try", "end"), ("lead", 0, []), ("redo",)]


def drawn_script(own, dice, many, deep=0):
    """Return a script, with tries in it, made while an own hall is told its commands."""
    script = []
    for _ in range(many):
        if deep < 3 and dice.random() < 0.2:
            kept = own.kept()
            script.append(("try", drawn_script(own, dice, dice.randint(0, 4), deep + 1)))
            own.bring_back(kept)
        else:
            command = drawn_command(own, dice)
            # A tie of a lamp and itself is none by its form.
            script.append(command if command[0] != "tie" or len(set(command[2])) == 2 else ("redo",))
            what_own_tells(own, *script[-1])
    return script


def own_said(own, script):
    """Return what is said of a script, by an own list of what the hall holds."""
    said = []
    for command in script:
        if command[0] == "try":
            kept = own.kept()
            said.append(("tried", own_said(own, command[1])))
            own.bring_back(kept)
            continue
        told, what = what_own_tells(own, *command)
        if told != "told":
            said.append(("refused", told))
        elif command[0] == "put":
            said.append(("put", what[1]))
        else:
            said.append(("done",) if what == frozen(None) else ("told", Frozen(what)))
    return said


class Frozen:
    """Something that is known as tuples alone."""

    def __init__(self, what):
        self.what = what


def frozen_said(said):
    """Return what is said as tuples that are equal only for equal objects of the same kinds."""
    rows_said = []
    for row in said:
        if row[0] == "tried":
            rows_said.append(("tried", frozen_said(row[1])))
        elif row[0] == "told":
            rows_said.append(("told", row[1].what if isinstance(row[1], Frozen) else frozen(row[1])))
        else:
            rows_said.append(frozen(row))
    return rows_said


def own_lines(script):
    """Return the lines of a script by the words of [101]."""
    lines = []
    for word, *things in script:
        pieces, inner = [word], []
        for thing in things:
            if isinstance(thing, Net):
                inner = net_text(thing).split("\n")
            elif word == "try":
                inner = own_lines(thing)
            elif isinstance(thing, (list, tuple)):
                pieces.extend(thing)
            else:
                pieces.append(str(thing))
        lines.append(" ".join(pieces))
        if word in ("put", "try"):
            lines.extend(["  " + line for line in inner] + ["end"])
    return lines


def own_end(script):
    own = OwnHall()
    own_said(own, script)
    return {spot: tuple(own.now["spots"][spot]) for spot in sorted(own.now["spots"])}


def own_shortened(script):
    """Shorten a script command by command as [102] tells it."""
    end, left = own_end(script), list(script)
    for at in range(len(script) - 1, -1, -1):
        without = left[:at] + left[at + 1:]
        if frozen(own_end(without)) == frozen(end):
            left = without
    return left


def scripts(many, seed):
    dice = random.Random(seed)
    found = [[], SCRIPT, WORDY, [("undo",)], [("try", [])],
             [("put", NETS[0], []), ("try", [("undo",), ("put", PAIR, [])])]]
    return found + [drawn_script(OwnHall(), dice, dice.randint(1, 12)) for _ in range(many)]


class Played(unittest.TestCase):
    def test_drawn_scripts_against_an_own_list(self):
        seen = {}
        for script in scripts(150, 1):
            hall, own = Hall(), OwnHall()
            before = frozen(script)
            said = play(hall, script)
            self.assertEqual(frozen_said(said), frozen_said(own_said(own, script)))
            check_alike(self, hall, own)
            self.assertEqual(frozen(script), before)
            for row in said:
                seen[row[0]] = seen.get(row[0], 0) + 1
        self.assertEqual(sorted(seen), ["done", "put", "refused", "told", "tried"])
        self.assertGreater(min(seen.values()), 50)

    def test_halls_that_hold_something(self):
        hall = some_hall()
        script = [("take", 1), ("undo",), ("undo",), ("ready_there", 2), ("put", PAIR, []), ("redo",)]
        self.assertEqual(play(hall, script),
                         [("done",), ("done",), ("done",), ("told", ["b"]), ("put", 3), ("refused", "NothingToRedo")])
        self.assertEqual(hall.spots(), [0, 1, 2, 3])
        self.assertEqual(play(hall=hall, script=[("undo",)] * 6), [("done",)] * 4 + [("refused", "NothingToUndo")] * 2)
        self.assertEqual(hall.spots(), [])

    def test_refusals_by_the_names_of_their_classes(self):
        told = play(some_hall(), [
            ("take", 9), ("put", PAIR, ["z"]), ("switch", 0, "s"), ("switch", 0, "a"), ("lead", 0, ["a"]),
            ("aim", 0, ["z"]), ("aim", 0, ["a"]), ("aim", 0, ["b", "s"]), ("let_go", 0), ("push", 0, "a"),
            ("tie", 0, ("a", "z")), ("tie", 2, ("a", "b")), ("rewish", 0, "z", "odd"), ("rewish", 0, "a", "red"),
            ("rewish", 2, "a", "odd"), ("lay", 0, 0), ("lay", 0, 2), ("ready_there", 7), ("is_met", 7),
            ("alike_spots", 7), ("redo",), ("redo",), ("switch", 10 ** 29, "a")])
        words = ["InvalidSpot", "InvalidSetting", "InvalidLamp", "Refused", "InvalidRoad", "InvalidSetting", "Unlike",
                 "Refused", "Refused", "InvalidLamp", "InvalidTies", "Refused", "InvalidLamp", "InvalidWishes",
                 "Refused", "InvalidSpot", "Refused", "InvalidSpot", "InvalidSpot", "InvalidSpot", None,
                 "NothingToRedo", "InvalidSpot"]
        self.assertEqual(told, [("refused", word) if word else ("done",) for word in words])

    def test_tries_within_tries_leave_no_trace(self):
        hall = some_hall()
        shape = whole(hall)
        inner = ("try", [("take", 0), ("try", [("undo",), ("undo",), ("redo",), ("take", 2), ("try", [("redo",)])]),
                         ("is_met", 2), ("put", PAIR, [])])
        said = play(hall, [inner, inner])
        self.assertEqual(said[0], said[1])
        self.assertEqual(said[0], ("tried", [
            ("done",), ("tried", [("done",)] * 4 + [("tried", [("refused", "NothingToRedo")])]),
            ("told", False), ("put", 3)]))
        self.assertEqual(whole(hall), shape)

    def test_what_is_no_hall_and_what_is_no_script(self):
        hall = some_hall()
        shape = whole(hall)
        for wrong in WRONG_SCRIPTS + rows.NOTHINGS + [
                some_hall(), [("put", PAIR, []), None], [("take", 0), ("take", -1)]]:
            with self.assertRaises(Exception) as held:
                play(hall, wrong)
            self.assertIs(type(held.exception), InvalidScript)
            self.assertIs(held.exception.value, wrong)
            for no_hall in (None, [], {}, "hall", PAIR, Hall, Hall().trial(), [hall]):
                with self.assertRaises(InvalidHall) as held:
                    play(no_hall, wrong)
                self.assertIs(held.exception.value, no_hall)
        self.assertEqual(whole(hall), shape)

    def test_each_part_of_each_command_bent(self):
        hall = Hall()
        for command in SCRIPT + [("is_met", 3), ("alike_spots", 0)]:
            bent = [command[:-1], command + (0,), list(command), command[1:], (command[0].title(),) + command[1:],
                    ("",) + command[1:], (None,) + command[1:]]
            for at in range(1, len(command)):
                bent.extend(command[:at] + (wrong,) + command[at + 1:]
                            for wrong in (None, True, False, -1, "A", "", [None], (), {}, [()], ("a", "b", "c"),
                                          ["b", "a", ""], [["a"]], Hall()))
            for wrong in bent:
                with self.assertRaises(InvalidScript):
                    play(hall, [("put", PAIR, []), wrong])
                for function in (script_text, end_of, shortened):
                    with self.assertRaises(InvalidScript) as held:
                        script = [("try", [wrong])]
                        function(script)
                    self.assertIs(held.exception.value, script)
        self.assertEqual(hall.spots(), [])

    def test_what_is_said_and_passed_may_be_changed(self):
        script = thawed(SCRIPT)
        hall, other = Hall(), Hall()
        said, again = play(hall, script), play(other, thawed(SCRIPT))
        shape = whole(hall)
        self.assertEqual(frozen(said), frozen(again))
        spoil(script)
        spoil(said)
        self.assertEqual([whole(hall), whole(other)], [shape, shape])
        self.assertEqual(frozen(play(Hall(), SCRIPT)), frozen(again))


class Texts(unittest.TestCase):
    def test_texts_line_by_line_that_are_read_back(self):
        for script in scripts(120, 2):
            text = script_text(script)
            self.assertEqual(text, "\n".join(own_lines(script)))
            told = read_script(text)
            self.assertEqual(frozen(told), frozen(script))
            spoil(told)
            self.assertEqual(frozen(read_script(text)), frozen(script))

    def test_texts_bent_in_one_place(self):
        """A bent text is taken just if some script has it as its text."""
        dice, seen = random.Random(3), {True: 0, False: 0}
        for script in scripts(12, 4):
            for text in bent_texts(script_text(script), dice, 80):
                try:
                    told = read_script(text)
                except InvalidText as error:
                    self.assertIs(error.value, text)
                    self.assertIs(Reader(text).reads(), False, text)
                    seen[False] += 1
                else:
                    self.assertEqual("\n".join(own_lines(told)), text)
                    self.assertIs(Reader(text).reads(), True, text)
                    seen[True] += 1
        self.assertTrue(seen[True] > 100 and seen[False] > 2000)

    def test_single_texts(self):
        for text, script in (
                ("", []), ("undo", [("undo",)]), ("try\nend", [("try", [])]), ("take 0", [("take", 0)]),
                ("put\n  a odd\nend", [("put", Net(["a"], [], {"a": "odd"}), [])]),
                ("put end\n  end odd odd\n  odd even\nend\nlead 0 end",
                 [("put", Net(["end", "odd"], [("end", "odd")], {"end": "odd", "odd": "even"}), ["end"]),
                  ("lead", 0, ["end"])]),
                ("try\n  put\n    end stuck\n  end\n  undo\nend\nredo",
                 [("try", [("put", Net(["end"], [], {"end": "stuck"}), []), ("undo",)]), ("redo",)]),
                ("lay 10 " + "9" * 30, [("lay", 10, int("9" * 30))]), ("aim 0", [("aim", 0, [])]),
                ("rewish 0 put undo", [("rewish", 0, "put", "undo")])):
            self.assertEqual([frozen(read_script(text=text)), script_text(script=script)], [frozen(script), text])

    def test_what_is_no_text(self):
        for wrong in (None, True, 0, [], [""], {}, (), PAIR, ["undo"], "\n", " ", "undo\n", "\nundo", "undo ", " undo",
                      "Undo", "undo 0", "undo\n\nredo", "take", "take ", "take  0", "take 00", "take 01", "take -1",
                      "take +1", "take a", "take 0 0", "take 1 ", "take\t1", "take 0\r", "switch 0", "switch a 0",
                      "switch 0 A", "switch 0 a b", "lead", "lead a", "lead 0  a", "lead 0 a ", "aim 0 b a",
                      "aim 0 a a",
                      "tie 0 a", "tie 0 b a", "tie 0 a a", "tie 0 a b c", "rewish 0 a", "rewish 0 a b c", "lay 0",
                      "lay 0 a", "try", "try\n", "try\nend\nend", "end", "try\n  end", "try\nundo\nend",
                      "try\n undo\nend", "try\n   undo\nend", "try\n    undo\nend", "try\n  undo", "try end",
                      "try\n  undo\n  end", "  undo", "put", "put\nend", "put\n  a odd", "put\na odd\nend",
                      "put\n  a odd\nend\nend", "put\n  a red\nend", "put\n    a odd\nend",
                      "put b a\n  a odd\nend", "put\n  b odd\n  a odd\nend", "put\n  a odd\n  end",
                      "put\n  a odd b\nend", "put\n  a odd\n\nend", "put \n  a odd\nend", "undo\n  a odd\nend", "spots",
                      "way 0", "ready_there", "is_met a", "take " + "1" * 400 + "a"):
            with self.assertRaises(Exception) as held:
                read_script(wrong)
            self.assertIs(type(held.exception), InvalidText, wrong)
            self.assertIs(held.exception.value, wrong)

    def test_texts_of_what_is_no_script(self):
        for wrong in WRONG_SCRIPTS + [None, True, "undo", [("undo",), "undo"]]:
            with self.assertRaises(InvalidScript) as held:
                script_text(wrong)
            self.assertIs(held.exception.value, wrong)
        self.assertGreater(len(WRONG_COMMANDS), 80)


class Reader:
    """A reader of its own, line by line and strict, that only tells whether some script has a text."""

    FORMS = {"take": "n", "switch": "nw", "lead": "n*", "aim": "n<", "let_go": "n", "push": "nw", "tie": "nt",
             "rewish": "nww", "lay": "nn", "ready_there": "n", "is_met": "n", "alike_spots": "n", "undo": "",
             "redo": "", "put": "<", "try": ""}

    def __init__(self, text):
        self.lines, self.at = text.split("\n") if text else [], 0

    def reads(self):
        return self.script(0) and self.at == len(self.lines)

    def line(self, deep):
        """Return the next line without the blanks ahead, None if it is not so far in."""
        if self.at == len(self.lines) or not self.lines[self.at].startswith(" " * deep):
            return None
        return self.lines[self.at][deep:]

    def script(self, deep):
        while self.at < len(self.lines):
            line = self.line(deep)
            if line is None or line == "end" and deep:
                break
            word, *pieces = line.split(" ")
            if word not in self.FORMS or not self.fit(self.FORMS[word], pieces):
                return False
            self.at += 1
            if word in ("put", "try") and not self.inner(word, deep):
                return False
        return True

    def inner(self, word, deep):
        begun = self.at
        if word == "try":
            if not self.script(deep + 2):
                return False
        else:
            while self.line(deep + 2) is not None:
                self.at += 1
            rows_told = [line[deep + 2:].split(" ") for line in self.lines[begun:self.at]]
            if not self.is_net(rows_told):
                return False
        self.at += 1
        return self.at <= len(self.lines) and self.lines[self.at - 1] == " " * deep + "end"

    def is_net(self, told):
        lamps = [row[0] for row in told]
        return bool(told) and lamps == sorted(set(lamps)) and all(
            self.is_word(row[0]) and len(row) > 1 and row[1] in ("odd", "even", "stuck")
            and row[2:] == sorted(set(row[2:]))
            and all(near in lamps and near > row[0] for near in row[2:]) for row in told)

    def is_word(self, piece):
        return 1 <= len(piece) <= 8 and all("a" <= sign <= "z" for sign in piece)

    def fit(self, form, pieces):
        for sign in form:
            if sign in "*<":
                return all(self.is_word(piece) for piece in pieces) and (sign == "*" or pieces == sorted(set(pieces)))
            many = 2 if sign == "t" else 1
            some, pieces = pieces[:many], pieces[many:]
            if len(some) < many or sign == "t" and not some[0] < some[1]:
                return False
            if sign == "n" and not (some[0].isdigit() and str(int(some[0])) == some[0]):
                return False
            if sign != "n" and not all(self.is_word(piece) for piece in some):
                return False
        return not pieces


class Ends(unittest.TestCase):
    def test_ends_of_scripts(self):
        for script in scripts(80, 5):
            told = end_of(script)
            self.assertEqual(frozen(told), frozen(own_end(script)))
            spoil(told)
            self.assertEqual(frozen(end_of(script=script)), frozen(own_end(script)))

    def test_scripts_are_shortened_command_by_command(self):
        shorter = 0
        for script in scripts(60, 6):
            before = frozen(script)
            told = shortened(script)
            self.assertEqual(frozen(told), frozen(own_shortened(script)))
            self.assertEqual([frozen(end_of(told)), frozen(script)], [frozen(end_of(script)), before])
            shorter += 0 < len(told) < len(script)
            spoil(told)
            self.assertEqual(frozen(script), before)
        self.assertGreater(shorter, 20)

    def test_commands_that_are_left_out_or_needed(self):
        put, other, switch = ("put", PAIR, ["a"]), ("put", NETS[3], ["c"]), ("switch", 0, "b")
        for script, left in (
                ([], []), ([("undo",), ("redo",)], []), ([put, ("take", 0)], [("take", 0)]),
                ([put, ("undo",)], [("undo",)]),
                ([put, other, ("take", 0)], [put, other, ("take", 0)]), ([put, other, ("undo",)],) * 2,
                ([put, ("try", [("take", 0)]), ("ready_there", 0), ("switch", 5, "a")], [put]),
                ([put, switch, switch],) * 2, ([put, switch, switch, switch],) * 2,
                ([put, switch, ("undo",), ("redo",)], [put, switch, ("redo",)]),
                ([put, ("aim", 0, ["b"]), ("let_go", 0)], [put, ("let_go", 0)]),
                ([other, put, ("take", 0), ("lay", 1, 0)], [other, put, ("take", 0)])):
            self.assertEqual(frozen(own_shortened(script)), frozen(left))
            self.assertEqual(frozen(shortened(script)), frozen(left))
        self.assertEqual(end_of([put, ("aim", 0, ["b"]), other]), {0: (PAIR, ["a"], ["b"]), 1: (NETS[3], ["c"], None)})
        self.assertEqual(end_of([put, ("aim", 0, [])]), {0: (PAIR, ["a"], None)})

    def test_asking_leaves_no_trace(self):
        script = [command for command in SCRIPT if command[0] not in ASKINGS]
        self.assertEqual(frozen(end_of(SCRIPT)), frozen(end_of(script)))
        self.assertEqual(made_net("ab", "ab"), NETS[0])


if __name__ == "__main__":
    unittest.main()
