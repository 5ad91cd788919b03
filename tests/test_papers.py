"""Points [103] and [104]: texts of nets, of changes and of roads, read back, and each bent in one place."""

import itertools
import random
import unittest

from helpers import Net, all_lots, frozen, made_net, random_net, small_nets
from oddlamps.errors import InvalidChange, InvalidNet, InvalidRoad, InvalidText
from oddlamps.papers import change_text, net_text, read_change, read_net, read_road, road_text
from rows_hall import WRONG_CHANGE_TEXTS, WRONG_NET_TEXTS
from rows_seen import WRONG_FORM_CHANGES
from test_changes import all_changes

WORDS = ["end", "even", "odd", "put", "stuck", "tie", "try"]
SIGNS = ["", " ", "  ", "\n", "\t", "a", "z", "A", "0", "odd", "even", " a", " b", ".", "\r", "end"]


def bent_texts(text, dice, many=60):
    """Return texts that differ from one in one place."""
    found = [text + more for more in SIGNS[1:]] + [more + text for more in SIGNS[1:]] + [text.upper(), text.title()]
    lines = text.split("\n")
    for at in range(len(lines)):
        found.extend(["\n".join(lines[:at] + lines[at + 1:]), "\n".join(lines[:at] + lines[at:at + 1] + lines[at:]),
                      "\n".join(lines[:at] + ["  " + lines[at]] + lines[at + 1:]),
                      "\n".join(lines[:at] + lines[at:][::-1])])
        words = lines[at].split(" ")
        for place in range(len(words)):
            for more in ([], words[place:place + 1] * 2, [""], ["a"], ["end"], ["07"]):
                line = " ".join(words[:place] + more + words[place + 1:])
                found.append("\n".join(lines[:at] + [line] + lines[at + 1:]))
    for _ in range(many):
        at = dice.randint(0, len(text))
        found.append(text[:at] + dice.choice(SIGNS) + text[at + dice.randint(0, 1):])
    return [bent for bent in found if bent != text]


def named_nets():
    """Return nets whose lamps have the words of the package as names."""
    dice, nets = random.Random(1), []
    for _ in range(12):
        lamps = dice.sample(WORDS, dice.randint(1, len(WORDS)))
        ties = [tie for tie in itertools.combinations(sorted(lamps), 2) if dice.random() < 0.4]
        nets.append(Net(lamps, ties, {lamp: dice.choice(["odd", "even", "stuck"]) for lamp in lamps}))
    return nets


def own_net_text(net):
    """Return the text of a net by the words of [103]."""
    return "\n".join(" ".join([lamp, net.wishes()[lamp]] + [high for low, high in net.ties() if low == lamp])
                     for lamp in net.lamps())


class Papers(unittest.TestCase):
    def refuses(self, function, value, error):
        with self.assertRaises(Exception) as held:
            function(value)
        self.assertIs(type(held.exception), error, (function, value))
        self.assertIs(held.exception.value, value)


class Nets(Papers):
    def nets(self):
        return small_nets() + [random_net(seed, 9, 0.3, 0.3) for seed in range(10)] + named_nets()

    def test_texts_that_are_read_back(self):
        for net in self.nets():
            text = net_text(net)
            self.assertEqual(text, own_net_text(net))
            self.assertEqual(frozen(read_net(text)), frozen(net))

    def test_bent_texts(self):
        """A bent text is taken just if it is the text of the net that it then tells."""
        dice, seen = random.Random(2), {True: 0, False: 0}
        for net in self.nets():
            for text in bent_texts(net_text(net), dice):
                try:
                    told = read_net(text)
                except InvalidText as error:
                    self.assertIs(error.value, text)
                    self.assertIs(self.is_text(text), False, text)
                    seen[False] += 1
                else:
                    self.assertIs(self.is_text(text), True, text)
                    self.assertEqual(own_net_text(told), text)
                    seen[True] += 1
        self.assertTrue(seen[True] > 30 and seen[False] > 2000)

    def is_text(self, text):
        """Tell by the words of [103] whether a string is the text of some net."""
        rows = [line.split(" ") for line in text.split("\n")]
        lamps = [row[0] for row in rows]
        letters = "abcdefghijklmnopqrstuvwxyz"
        return (all(len(row) >= 2 and row[1] in ("odd", "even", "stuck") for row in rows)
                and lamps == sorted(set(lamps))
                and all(1 <= len(lamp) <= 8 and set(lamp) <= set(letters) for lamp in lamps)
                and all(row[2:] == sorted(set(row[2:])) and all(near > row[0] and near in lamps for near in row[2:])
                        for row in rows))

    def test_what_is_no_text_and_what_is_no_net(self):
        for wrong in WRONG_NET_TEXTS + [None, True, "", "\n", " ", made_net("a", ""), ["a odd"], ("a odd",)]:
            self.refuses(read_net, wrong, InvalidText)
        for wrong in (None, "a odd", [], {}, {"a": "odd"}, True, ["a"], (made_net("a", ""),)):
            self.refuses(net_text, wrong, InvalidNet)


class Changes(Papers):
    def test_texts_that_are_read_back(self):
        for change in all_changes(["end", "odd", "put", "tie"]) + all_changes(["a", "b", "zzzzzzzz"]):
            text = change_text(change)
            pieces = [piece for thing in change for piece in (thing if isinstance(thing, list) else [thing])]
            self.assertEqual(text, " ".join(pieces))
            self.assertEqual(frozen(read_change(text)), frozen(change))

    def test_bent_texts(self):
        dice, seen = random.Random(3), {True: 0, False: 0}
        known = {change_text(change): change for words in (["a", "b", "c", "end", "even", "odd"],)
                 for change in self.all_of(words)}
        for change in dice.sample(list(known.values()), 120):
            for text in bent_texts(change_text(change), dice, 30):
                if len(text) > 40:
                    continue
                try:
                    told = read_change(text)
                except InvalidText as error:
                    self.assertIs(error.value, text)
                    self.assertNotIn(text, known)
                    seen[False] += 1
                else:
                    self.assertEqual(change_text(told), text)
                    seen[True] += 1
        self.assertTrue(seen[True] > 100 and seen[False] > 3000)

    def all_of(self, words):
        return all_changes(words) + [("put", word, wish, lot) for word in words for wish in ("odd", "even", "stuck")
                                     for lot in all_lots(words)]

    def test_what_is_no_text_and_what_is_no_change(self):
        for wrong in WRONG_CHANGE_TEXTS + [None, True, "", "a", "\n", made_net("a", "")]:
            self.refuses(read_change, wrong, InvalidText)
        for wrong in WRONG_FORM_CHANGES + [None, "take a"]:
            self.refuses(change_text, wrong, InvalidChange)

    def test_what_was_told_may_be_changed(self):
        change = ("put", "d", "odd", ["a", "c"])
        told = read_change(change_text(change))
        told[3].append("zz")
        self.assertEqual([change_text(change), read_change("put d odd a c")], ["put d odd a c", change])


class Roads(Papers):
    def test_texts_that_are_read_back(self):
        dice = random.Random(4)
        self.assertEqual([road_text([]), read_road("")], ["", []])
        for many in (1, 2, 3, 9, 2500):
            road = [dice.choice(WORDS + ["a", "b", "zzzzzzzz"]) for _ in range(many)]
            self.assertEqual(road_text(road), " ".join(road))
            self.assertEqual(read_road(road_text(road)), road)
        self.assertEqual([read_road(text="a b a"), road_text(road=["a"])], [["a", "b", "a"], "a"])

    def test_what_is_no_text(self):
        for wrong in (" ", "a ", " a", "a  b", "a\nb", "\n", "a\tb", "A", "a B", "a 1", "abcdefghi", "a,b", "a-b",
                      "a\n", 0, None, True, False, [], ["a"], ("a",), {}, {"a": 1}, made_net("a", ""), [[]]):
            self.refuses(read_road, wrong, InvalidText)

    def test_what_is_no_list_of_words(self):
        for wrong in (None, "", "a b", ("a",), ["A"], [""], ["a", None], [["a"]], {"a": 1}, 0, True, ["a b"], [1],
                      made_net("a", ""), ["a", "abcdefghi"], ["a\n"], [("a",)]):
            self.refuses(road_text, wrong, InvalidRoad)

    def test_bent_texts(self):
        dice = random.Random(5)
        for road in ([], ["a"], ["odd", "a", "odd"], ["end", "end"]):
            for text in bent_texts(road_text(road), dice):
                own = text == "" or all(0 < len(word) <= 8 and word.isalpha() and word.islower()
                                        for word in text.split(" "))
                if own:
                    self.assertEqual(read_road(text), text.split(" ") if text else [])
                else:
                    self.refuses(read_road, text, InvalidText)


if __name__ == "__main__":
    unittest.main()
