"""Over the whole program: whether settings are joined is told alike by all that tells it, whatever was asked before."""

import random
import unittest

from helpers import RING, all_lots, frozen, made_net, own_free, own_reached, random_net, small_nets
from oddlamps.changes import changed, linking_ties, needed_ties, setting_along
from oddlamps.errors import Apart, Refused, Unlike
from oddlamps.hall import Hall
from oddlamps.joining import joined, least_unlike, parting_pieces, why_apart
from oddlamps.nets import free_lamps, renamed, side_by_side, without_stuck
from oddlamps.numbers import whole_number, whole_size
from oddlamps.papers import net_text, read_net
from oddlamps.roads import class_of, fewest_deeds
from oddlamps.seen import can_show, is_shown, many_shown, most_told, why_dark
from oddlamps.settings import led, setting_shifted, shifted
from oddlamps.ways import way_between
from oddlamps.works import exchanged, setting_exchanged

NETS = small_nets() + [random_net(seed, 6, 0.4, 0.3) for seed in range(12)] + [
    made_net("abcdest", RING + " as bt ct", "!s !t"), made_net("abxys", "ab xy bs", "x !s")]


def drawn_pairs(net, dice, many):
    """Return tuples of two settings, joined ones and others."""
    settings = all_lots(net.lamps())
    pairs = [(dice.choice(settings), dice.choice(settings)) for _ in range(many)]
    for _ in range(many):
        one = dice.choice(settings)
        pairs.append((one, list(dice.choice(list(own_reached(net, one))))))
    return pairs


class Joined(unittest.TestCase):
    def hall_tells(self, net, one, other):
        """Tell by a hall's aims whether two settings are joined."""
        hall = Hall()
        hall.put(net, one)
        hall.put(read_net(net_text(net)), other)
        alike = hall.alike_spots(0) == [1]
        try:
            hall.aim(0, other)
        except (Refused, Unlike):
            self.assertIs(alike, False)
            return False
        self.assertIs(alike, True)
        hall.lead(0, hall.way(0))
        self.assertEqual([hall.is_met(0), hall.setting_there(0)], [True, other])
        return True

    def rest_tells(self, net, one, other):
        """Tell by the net without its stuck lamps."""
        free = free_lamps(net)
        stuck = [[lamp for lamp in setting if lamp not in free] for setting in (one, other)]
        if not free or stuck[0] != stuck[1]:
            return stuck[0] == stuck[1]
        rests = [[lamp for lamp in setting if lamp in free] for setting in (one, other)]
        return joined(without_stuck(net, stuck[0]), *rests)

    def other_nets(self, net, dice):
        """Return nets with the settings that stand for settings of this one: shifted, exchanged, renamed, glued."""
        lamps = [lamp for lamp in net.lamps() if dice.random() < 0.5]
        sent = dict(zip(net.lamps(), dice.sample(["end", "odd", "put", "q", "r", "try", "u", "v"], len(net.lamps()))))
        beside = made_net("z", "", "z")
        told = [(shifted(net, lamps), lambda setting: setting_shifted(net, setting, lamps)),
                (renamed(net, sent), lambda setting: sorted(sent[lamp] for lamp in setting)),
                (side_by_side(net, beside), list), (changed(net, ("put", "zz", "stuck", net.lamps())),
                                                    lambda setting: setting_along(net, [], setting))]
        ties = [tie for tie in net.ties() if set(tie) <= set(own_free(net))]
        if ties:
            lamp, other = dice.sample(dice.choice(ties), 2)
            told.append((exchanged(net, lamp, other), lambda setting: setting_exchanged(net, lamp, other, setting)))
        return told

    def test_told_alike_by_all_that_tells_it(self):
        dice, seen = random.Random(1), {True: 0, False: 0}
        for net in NETS:
            for one, other in drawn_pairs(net, dice, 8):
                reached = own_reached(net, one)
                own = tuple(other) in reached
                whole = (other, [lamp for lamp in net.lamps() if lamp not in other])
                way, paper = way_between(net, one, other), why_apart(net, one, other)
                told = [joined(net, one, other), joined(net, other, one), way is not None, paper is None,
                        fewest_deeds(net, one, other) is not None, other in class_of(net, one),
                        can_show(net, one, whole), is_shown(net, one, whole, other), why_dark(net, one, whole) is None,
                        many_shown(net, one, whole) == 1, most_told(net, one, whole) == whole,
                        least_unlike(net, one, other) == 0, self.rest_tells(net, one, other),
                        self.hall_tells(net, one, other)]
                told.extend(joined(there, sent(one), sent(other)) for there, sent in self.other_nets(net, dice))
                self.assertEqual(told, [own] * len(told))
                if own:
                    self.assertEqual([led(net, one, way), parting_pieces(net, one, other)], [other, []])
                    self.assertEqual(reached[tuple(other)], fewest_deeds(net, one, other))
                seen[own] += 1
        self.assertTrue(min(seen.values()) > 150)

    def test_ties_are_asked_of_those_that_are_joined_or_are_not(self):
        dice = random.Random(2)
        for net in NETS:
            for one, other in drawn_pairs(net, dice, 2):
                own = tuple(other) in own_reached(net, one)
                with self.assertRaises(Refused if own else Apart) as held:
                    (linking_ties if own else needed_ties)(net, one, other)
                self.assertIs(held.exception.value, other)

    def test_sizes_of_classes(self):
        dice = random.Random(3)
        for net in NETS:
            stuck = dice.choice(all_lots([lamp for lamp in net.lamps() if lamp not in own_free(net)]))
            settings = [sorted(stuck + lot) for lot in all_lots(own_free(net))]
            classes = {frozenset(map(tuple, class_of(net, setting))) for setting in settings[::3] + settings[1::3]}
            classes |= {frozenset(map(tuple, class_of(net, setting))) for setting in settings[2::3]}
            self.assertEqual(whole_number(net, settings[0]), len(classes))
            self.assertEqual(sum(len(some) for some in classes), len(settings))
            for setting in settings[::4]:
                self.assertEqual(whole_size(net, setting), len(class_of(net, setting)))


class Traces(unittest.TestCase):
    def test_nothing_that_is_asked_leaves_a_trace(self):
        dice = random.Random(4)
        questions = []
        for net in NETS:
            for one, other in drawn_pairs(net, dice, 1):
                questions.extend([(joined, net, one, other), (why_apart, net, one, other), (way_between, net, one, other),
                                  (class_of, net, one), (whole_size, net, one), (most_told, net, one, (other, []))])
        first = [frozen(function(*things)) for function, *things in questions]
        for _ in range(2):
            order = dice.sample(range(len(questions)), len(questions))
            for at in order:
                function, *things = questions[at]
                self.assertEqual(frozen(function(*things)), first[at])


if __name__ == "__main__":
    unittest.main()
