"""Points [81] to [85]: changes by their form and fitting, and what they change of pieces and of joined settings."""

import itertools
import random
import unittest

from great import great_tuples, net_of_tuples
from helpers import (
    COMB, LETTERS, RING, Net, all_lots, frozen, hanging_shapes, made_net, odd_net, own_free, own_near,
    own_net_pieces, own_reached, own_sum, random_net, small_nets)
from oddlamps.changes import (
    changed, changed_by, keeps_paired, kinds_changed, linking_ties, needed_ties, parting_lots, setting_along,
    tie_sets_number)
from oddlamps.cores import kind_of
from oddlamps.errors import Apart, InvalidChange, InvalidChanges, InvalidLamps, InvalidPiece, InvalidSetting, Refused
from oddlamps.points import points_of
from oddlamps.settings import led
from rows_seen import UNFIT_CHANGES, WRONG_FORM_CHANGES

WORDS = ["a", "b", "c", "d", "s", "zz"]
WISHES = ["odd", "even", "stuck"]


def own_fits(net, change):
    """Tell whether a change by its form fits a net, by the words of [81]."""
    lamps, ties, wishes = net.lamps(), net.ties(), net.wishes()
    if change[0] == "put":
        return change[1] not in lamps and set(change[3]) <= set(lamps)
    if change[0] == "take":
        return change[1] in lamps and len(lamps) > 1
    if change[0] == "wish":
        return change[1] in lamps and wishes[change[1]] != change[2]
    there = change[1] in lamps and change[2] in lamps
    return there and (change[1:] in ties) == (change[0] == "untie")


def own_behind(net, change):
    """Return the net behind a change that fits."""
    lamps, ties, wishes = net.lamps(), set(net.ties()), net.wishes()
    if change[0] == "put":
        lamps = lamps + [change[1]]
        ties |= {tuple(sorted((change[1], lamp))) for lamp in change[3]}
        wishes[change[1]] = change[2]
    if change[0] == "take":
        lamps = [lamp for lamp in lamps if lamp != change[1]]
        ties = {tie for tie in ties if change[1] not in tie}
        wishes = {lamp: wishes[lamp] for lamp in lamps}
    if change[0] in ("tie", "untie"):
        ties ^= {change[1:]}
    if change[0] == "wish":
        wishes[change[1]] = change[2]
    return Net(lamps, sorted(ties), wishes)


def own_setting(changes, setting):
    """Return the setting behind changes, one by one."""
    lit = set(setting)
    for change in changes:
        if change[0] in ("put", "take"):
            lit -= {change[1]}
    return sorted(lit)


def all_changes(words):
    """Return ALL changes of some words by their form."""
    lots, pairs = all_lots(words), list(itertools.combinations(words, 2))
    return ([("take", word) for word in words] + [("tie", *pair) for pair in pairs]
            + [("untie", *pair) for pair in pairs] + [("wish", word, wish) for word in words for wish in WISHES]
            + [("put", word, wish, lot) for word in words for wish in WISHES for lot in lots[::3]])


def grown_changes(net, dice, many):
    """Return so many changes, each fitting what those ahead of it made, and the net behind them."""
    changes = []
    while len(changes) < many:
        change = dice.choice(all_changes(sorted({*net.lamps()[::2], "q", "zz"})))
        if own_fits(net, change):
            changes.append(change)
            net = own_behind(net, change)
    return changes, net


def own_joined(net, one, other):
    return tuple(other) in own_reached(net, one)


def own_kinds(net):
    return {lamp: kind_of(net, piece) for piece in own_net_pieces(net) for lamp in piece}


class Changes(unittest.TestCase):
    def refuses(self, function, arguments, error, value):
        with self.assertRaises(Exception) as held:
            function(*arguments)
        self.assertIs(type(held.exception), error)
        self.assertIs(held.exception.value, value)

    def test_all_changes_of_small_nets(self):
        seen = {}
        for net in (made_net("abcds", "ab bc as cs", "d !s b"), made_net("ab", "ab"), made_net("a", ""),
                    made_net("s", "", "!s"), made_net("abc", "ac", "b")):
            before = frozen(net)
            for change in all_changes(WORDS):
                fits = own_fits(net, change)
                seen[change[0], fits] = seen.get((change[0], fits), 0) + 1
                if fits:
                    self.assertEqual(frozen(changed(net, change)), frozen(own_behind(net, change)))
                else:
                    self.refuses(changed, [net, change], InvalidChange, change)
                    self.refuses(changed_by, [net, [change]], InvalidChange, change)
            self.assertEqual(frozen(net), before)
        self.assertEqual(len(seen), 10)
        self.assertGreater(min(seen.values()), 3)

    def test_what_is_no_change_by_its_form(self):
        net = made_net("abcs", "ab bc as", "!s")
        for wrong in WRONG_FORM_CHANGES + [None, True, 1, "put", (("take", "a"),)]:
            self.refuses(changed, [net, wrong], InvalidChange, wrong)
            for changes in ([wrong], [("take", "a"), wrong], [("take", "z"), wrong]):
                for function, more in ((changed_by, []), (setting_along, [None]), (kinds_changed, []),
                                       (parting_lots, [None, None])):
                    self.refuses(function, [net, changes] + more, InvalidChanges, changes)

    def test_the_first_change_that_does_not_fit_is_told(self):
        net = made_net("abcs", "ab bc as", "!s")
        right = [("take", "a"), ("put", "a", "even", ["s"]), ("wish", "a", "odd"), ("tie", "a", "c")]
        for at in range(5):
            for unfit in (("take", "z"), ("put", "c", "odd", []), ("untie", "a", "b"), ("wish", "c", "odd")):
                changes = right[:at] + [unfit] + [("take", "nowhere")] + right[at:]
                if at == 0 and unfit == ("untie", "a", "b"):
                    continue
                for function, more in ((changed_by, []), (setting_along, [None]), (setting_along, [["z"]]),
                                       (kinds_changed, [])):
                    self.refuses(function, [net, changes] + more, InvalidChange, changes[at])
        nowhere = ["z"]
        self.refuses(setting_along, [net, right, nowhere], InvalidSetting, nowhere)

    def test_changes_one_behind_the_other(self):
        dice = random.Random(1)
        for net in small_nets() + [random_net(seed, 7, 0.3, 0.3) for seed in range(10)]:
            for many in (0, 1, 2, 3, 4, 4, 6):
                changes, behind = grown_changes(net, dice, many)
                self.assertEqual(frozen(changed_by(net, changes)), frozen(behind))
                for setting in dice.sample(all_lots(net.lamps()), min(5, 2 ** len(net.lamps()))):
                    self.assertEqual(frozen(setting_along(net, changes, setting)),
                                     frozen(own_setting(changes, setting)))
                for setting in (["nowhere"], ("a",), None):
                    self.refuses(setting_along, [net, changes, setting], InvalidSetting, setting)

    def test_lamps_that_are_taken_and_put_in_again_are_dark(self):
        net = made_net("abs", "ab bs", "!s")
        again = [("take", "s"), ("put", "s", "stuck", ["b"]), ("take", "a"), ("put", "a", "odd", ["b"])]
        self.assertEqual(changed_by(net, again), net)
        self.assertEqual([setting_along(net, again, ["a", "b", "s"]), setting_along(net, again[:2], ["a", "s"]),
                          setting_along(net, [("wish", "a", "stuck"), ("tie", "a", "s")], ["a", "s"])],
                         [["b"], ["a"], ["a", "s"]])
        self.assertEqual(changed(net, ("put", "q", "even", [])).ties(), net.ties())
        self.assertEqual(changed(net, ("put", "q", "even", ["a", "s"])).ties(),
                         [("a", "b"), ("a", "q"), ("b", "s"), ("q", "s")])

    def test_the_last_lamp_is_not_taken(self):
        net = made_net("ab", "ab")
        left = changed(net, ("take", "a"))
        self.assertEqual([left.lamps(), left.ties()], [["b"], []])
        for change in (("take", "b"), ("take", "a")):
            self.refuses(changed, [left, change], InvalidChange, change)

    def test_unfit_changes_of_the_rows(self):
        from rows import NET
        for change in UNFIT_CHANGES:
            self.assertIs(own_fits(NET, change), False)
            self.refuses(changed, [NET, change], InvalidChange, change)


class Kinds(unittest.TestCase):
    def test_kinds_against_each_piece(self):
        dice, seen = random.Random(2), [0, 0]
        nets = small_nets() + [random_net(seed, 8, 0.25, 0.2) for seed in range(20)]
        for net in nets + [random_net(seed, 7, 0.35, 0.1) for seed in range(30)]:
            for many in (0, 1, 1, 1, 2, 4):
                changes, behind = grown_changes(net, dice, many)
                now, then = own_kinds(net), own_kinds(behind)
                both = sorted(set(now) & set(then))
                own = tuple([lamp for lamp in both if (now[lamp], then[lamp]) == (here, there)]
                            for here, there in (("paired", "core"), ("core", "paired")))
                self.assertEqual(frozen(kinds_changed(net, changes)), frozen(own))
                seen = [many + bool(lamps) for many, lamps in zip(seen, own)]
        self.assertGreater(min(seen), 8)

    def test_lamps_stuck_and_freed_taken_and_put_in(self):
        row = made_net("abcdef", "ab bc cd de", "!f")
        self.assertEqual(kinds_changed(row, [("tie", "c", "f"), ("wish", "f", "even")]), (list("abcde"), []))
        self.assertEqual(kinds_changed(row, [("tie", "c", "f")]), ([], []))
        comb = made_net("abcdef", COMB)
        self.assertEqual(kinds_changed(comb, [("wish", "f", "stuck")]), ([], list("abcde")))
        self.assertEqual(kinds_changed(comb, [("take", "c")]), ([], list("abdef")))
        self.assertEqual(kinds_changed(comb, [("take", "c"), ("put", "c", "odd", ["b", "d"])]), ([], list("abcdef")))
        self.assertEqual(kinds_changed(comb, [("take", "c"), ("put", "c", "even", ["b", "d", "f"])]), ([], []))
        self.assertEqual(kinds_changed(comb, [("wish", lamp, "even") for lamp in "abcd"]), ([], []))


class Pairs(unittest.TestCase):
    def each_piece(self):
        for many in range(1, 6):
            for ties in hanging_shapes(many):
                yield odd_net(many, ties), list(LETTERS[:many])
        for ties in hanging_shapes(6)[::7]:
            yield odd_net(6, ties), list("abcdef")
        for net in small_nets() + [random_net(seed, 8, 0.3, 0.2) for seed in range(8)]:
            for piece in own_net_pieces(net):
                yield net, piece

    def test_against_the_nets_with_that_lamp(self):
        numbers = set()
        for net, piece in self.each_piece():
            fitting = 0
            for lamps in all_lots(piece)[1:]:
                own = kind_of(changed(net, ("put", "zz", "even", lamps)), sorted(piece + ["zz"])) == "paired"
                self.assertIs(keeps_paired(net, piece, lamps), own)
                fitting += own
            self.assertEqual(frozen(tie_sets_number(net, piece)), frozen(fitting))
            numbers.add((fitting == 0, fitting == 2 ** len(piece) - 1))
        self.assertEqual(numbers, {(False, False), (False, True), (True, False)})

    def test_great_pieces_by_points(self):
        """A lamp more fits exactly if its neighbours are those that have just one of two points."""
        dice, least = random.Random(3), 0
        for tuples in great_tuples(24) + great_tuples(12):
            net, piece = net_of_tuples(tuples)
            points = points_of(net, piece)
            top = 1 + max(high for _, high in points.values())
            at = [{lamp for lamp in piece if point in points[lamp]} for point in range(top)]
            lots = {frozenset(at[low] ^ at[high]) for low, high in itertools.combinations(range(top), 2)}
            lots |= {frozenset(lamps) for lamps in at}
            told = tie_sets_number(net, piece)
            in_lots = len({tuple(own_near(net.ties(), lamp)) for lamp in piece}) <= 3
            self.assertEqual(told, 2 ** len(piece) - 1 if in_lots else top * (top + 1) // 2)
            least += in_lots
            if not in_lots:
                self.assertEqual(told, len(lots))
            for lamps in dice.sample(sorted(sorted(lot) for lot in lots), min(12, len(lots))):
                self.assertIs(keeps_paired(net, piece, lamps), True)
                bent = own_sum(lamps, [dice.choice(piece)])
                if bent:
                    self.assertIs(keeps_paired(net, piece, bent), in_lots or frozenset(bent) in lots)
        self.assertGreater(least, 0)

    def test_lists_of_neighbours(self):
        net, piece = made_net("abcsx", "ab bc cs sx", "!s"), ["a", "b", "c"]
        for wrong in ([], ["b", "a"], ["s"], ["x"], ("a",), ["a", "a"], None, ["a", "z"]):
            with self.assertRaises(InvalidLamps) as held:
                keeps_paired(net, piece, wrong)
            self.assertIs(held.exception.value, wrong)
            with self.assertRaises(InvalidPiece):
                keeps_paired(net, ["a"], wrong)


class Ties(unittest.TestCase):
    def drawn(self, net, dice, joined, many):
        """Return so many tuples of settings that are joined, or that are not."""
        settings = all_lots(net.lamps())
        found = []
        for one in dice.sample(settings, min(4 * many, len(settings))):
            reached = own_reached(net, one)
            others = [other for other in settings if (tuple(other) in reached) == joined]
            found.extend((one, other) for other in dice.sample(others, min(2, len(others))))
        return dice.sample(found, min(many, len(found)))

    def nets(self):
        return [net for net in small_nets() + [random_net(seed, 6, 0.4, 0.2) for seed in range(6)] + [
            made_net("abcdes", "ab bc de as ds", "!s"), made_net("st", "", "!s !t"), made_net("abxy", "ab xy", "x")]
            if len(net.lamps()) <= 6]

    def test_needed_ties_one_by_one(self):
        dice, found = random.Random(4), 0
        for net in self.nets():
            for one, other in self.drawn(net, dice, True, 6):
                own = [tie for tie in net.ties() if not own_joined(own_behind(net, ("untie", *tie)), one, other)]
                self.assertEqual(frozen(needed_ties(net, one, other)), frozen(own))
                found += bool(own)
            for one, other in self.drawn(net, dice, False, 3):
                with self.assertRaises(Apart) as held:
                    needed_ties(net, one, other)
                self.assertIs(held.exception.value, other)
        self.assertGreater(found, 15)

    def test_linking_ties_one_by_one(self):
        dice, found = random.Random(5), 0
        for net in self.nets():
            pairs = [tie for tie in itertools.combinations(net.lamps(), 2) if tie not in net.ties()]
            for one, other in self.drawn(net, dice, False, 8):
                own = [tie for tie in pairs if own_joined(own_behind(net, ("tie", *tie)), one, other)]
                self.assertEqual(frozen(linking_ties(net, one, other)), frozen(own))
                found += bool(own)
            for one, other in self.drawn(net, dice, True, 3):
                with self.assertRaises(Refused) as held:
                    linking_ties(net, one, other)
                self.assertIs(held.exception.value, other)
        self.assertGreater(found, 20)

    def test_ties_of_two_pieces_and_of_stuck_lamps_link(self):
        net = made_net("abst", "bt", "!s !t")
        self.assertEqual([linking_ties(net, ["s"], ["a", "s"]), linking_ties(net, ["s"], ["a", "b", "s"]),
                          linking_ties(net, [], ["a"]), linking_ties(net, [], ["s"])],
                         [[("a", "s")], [], [], []])
        apart = made_net("abcd", "ab cd")
        told = linking_ties(apart, ["a"], ["a", "c"])
        own = [tie for tie in itertools.combinations("abcd", 2)
               if tie not in apart.ties() and own_joined(own_behind(apart, ("tie", *tie)), ["a"], ["a", "c"])]
        self.assertEqual(told, own)

    def test_wrong_settings_come_ahead_of_apart_and_refused(self):
        net = made_net("ab", "ab")
        for function, error, one, other in ((needed_ties, Apart, [], ["a"]), (linking_ties, Refused, ["a"], ["b"])):
            with self.assertRaises(error):
                function(net, one, other)
            for wrong in (["z"], ("a",), None, ["b", "a"]):
                for arguments in ([net, wrong, other], [net, one, wrong], [net, wrong, None]):
                    with self.assertRaises(InvalidSetting) as held:
                        function(*arguments)
                    self.assertIs(held.exception.value, wrong)


class Lots(unittest.TestCase):
    def own_lots(self, net, changes, one, other):
        """Return ALL least lots behind which two settings are not joined, and how many lots there are."""
        apart = {}
        for places in all_lots(range(len(changes))):
            now, fits = net, True
            for place in places:
                fits = fits and own_fits(now, changes[place])
                now = own_behind(now, changes[place]) if fits else now
            if fits:
                lot = [changes[place] for place in places]
                apart[tuple(places)] = not own_joined(now, own_setting(lot, one), own_setting(lot, other))
        least = [list(places) for places in apart if apart[places]
                 and not any(apart[fewer] for fewer in apart if set(fewer) < set(places))]
        return sorted(least), len(apart)

    def test_against_all_lots_of_positions(self):
        dice, seen = random.Random(6), {}
        for net in small_nets() + [random_net(seed, 6, 0.4, 0.2) for seed in range(8)]:
            pool = [change for change in all_changes(sorted({*net.lamps()[::2], "zz"})) if change[0] != "put"]
            for _ in range(6):
                starts = [dice.choice(all_lots(net.lamps())) for _ in range(3)]
                one = max(starts, key=lambda setting: len(own_reached(net, setting)))
                other = list(dice.choice(list(own_reached(net, one))))
                changes = dice.sample(pool, dice.randint(0, 3)) + grown_changes(net, dice, 1)[0]
                changes = dice.sample(changes, len(changes))
                own, lots = self.own_lots(net, changes, one, other)
                self.assertEqual(frozen(parting_lots(net, changes, one, other)), frozen(own))
                seen[len(own)] = seen.get(len(own), 0) + 1
                self.assertTrue(1 <= lots <= 2 ** len(changes))
        self.assertTrue(len(seen) >= 3 and min(seen[0], seen[1]) > 20)

    def test_changes_that_fit_only_behind_others(self):
        net = made_net("abcd", "ab bc cd")
        changes = [("tie", "a", "zz"), ("put", "zz", "odd", []), ("tie", "b", "zz"), ("take", "b"), ("take", "b")]
        own, lots = self.own_lots(net, changes, ["a"], ["c"])
        self.assertEqual([parting_lots(net, changes, ["a"], ["c"]), lots], [own, 9])
        self.assertEqual(own, [[3], [4]])
        self.assertEqual(parting_lots(net, [("untie", "a", "b")] * 2, ["a"], ["c"]), [[0], [1]])

    def test_lots_of_several_changes_that_part_where_none_does_alone(self):
        ring = made_net("abcd", "ab bc cd ad")
        changes = [("untie", "a", "b"), ("wish", "c", "odd"), ("untie", "a", "d"), ("tie", "b", "d")]
        own, _ = self.own_lots(ring, changes, ["a"], ["c"])
        self.assertEqual([own, parting_lots(ring, changes, ["a"], ["c"])], [[[0, 2]]] * 2)
        changes = [("wish", "zz", "stuck"), ("put", "zz", "odd", []), ("untie", "a", "b"), ("tie", "a", "zz")]
        own, _ = self.own_lots(ring, changes, ["a"], ["c"])
        self.assertEqual(parting_lots(ring, changes, ["a"], ["c"]), own)

    def test_errors_in_their_order(self):
        net, unfit = made_net("ab", "ab"), [("take", "zz")]
        self.assertEqual(parting_lots(net, unfit, ["a"], ["b"]), [])
        for arguments, error, value in (
                ([net, unfit, [], ["a"]], Apart, 3), ([net, [None], None, None], InvalidChanges, 1),
                ([net, unfit, None, None], InvalidSetting, 2), ([net, unfit, [], None], InvalidSetting, 3),
                ([net, tuple(unfit), [], ["a"]], InvalidChanges, 1)):
            with self.assertRaises(error) as held:
                parting_lots(*arguments)
            self.assertIs(held.exception.value, arguments[value])

    def test_the_settings_go_along(self):
        net = made_net("abc", "ab bc")
        self.assertEqual(led(net, ["a"], ["b"]), ["a", "b"])
        self.assertEqual(parting_lots(net, [("take", "b"), ("wish", "b", "stuck")], ["a"], ["a", "b"]), [[1]])
        self.assertEqual(own_free(net), ["a", "b", "c"])


if __name__ == "__main__":
    unittest.main()
