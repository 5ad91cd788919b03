"""Points [16] to [21]: settings, deeds, roads, and what shifts them."""

import random
import unittest

from helpers import all_lots, frozen, own_near, own_pieces, own_ready, random_net, random_walk
from oddlamps.errors import InvalidLamp, InvalidRoad
from oddlamps.nets import Net, free_lamps
from oddlamps.settings import (
    cut_short, is_ready, is_road, is_setting, led, led_along, lit_neighbours, ready_lamps, setting_shifted, shifted,
    still_pieces, switched)

SMALL = [random_net(seed, many, share, stuck) for seed, (many, share, stuck) in enumerate(
    [(many, share, stuck) for many in (1, 2, 4, 6) for share in (0.2, 0.5, 0.9) for stuck in (0, 0.3, 1)])]
GREATER = [random_net(seed, 14, 0.25, 0.2) for seed in range(12)]


def own_ready_lamps(net, setting):
    return [lamp for lamp in net.lamps() if own_ready(net.wishes(), net.ties(), setting, lamp)]


def own_cut_short(ties, road):
    """Go through a road as [20] says: entries are struck, together with the lamp's last one among those left."""
    entries = []
    for lamp in road:
        left = [at for at, entry in enumerate(entries) if not entry["struck"]]
        last = [at for at in left if entries[at]["lamp"] == lamp][-1:]
        since = [entries[at]["lamp"] for at in left if last and at > last[0]]
        again = bool(last) and not any(other in own_near(ties, lamp) for other in since)
        if again:
            entries[last[0]]["struck"] = True
        entries.append({"lamp": lamp, "struck": again})
    return [entry["lamp"] for entry in entries if not entry["struck"]]


class Settings(unittest.TestCase):
    def test_all_settings_against_counting(self):
        for net in SMALL:
            wishes, ties = net.wishes(), net.ties()
            own = [list(piece) for piece in own_pieces(free_lamps(net), ties)]
            for setting in all_lots(net.lamps()):
                self.assertIs(is_setting(net, setting), True)
                ready = own_ready_lamps(net, setting)
                self.assertEqual(ready_lamps(net, setting), ready)
                self.assertEqual(still_pieces(net, setting),
                                 [piece for piece in own if not set(piece) & set(ready)])
                for lamp in net.lamps():
                    self.assertIs(is_ready(net, setting, lamp), lamp in ready)
                    self.assertEqual(lit_neighbours(net, setting, lamp),
                                     [near for near in own_near(ties, lamp) if near in setting])
                    self.assertIs(is_ready(net, setting, lamp), own_ready(wishes, ties, setting, lamp))

    def test_deeds_and_deeds_taken_back(self):
        for net in SMALL:
            for setting in all_lots(net.lamps()):
                ready = ready_lamps(net, setting)
                for lamp in net.lamps():
                    if lamp in ready:
                        behind = switched(net, setting, lamp)
                        self.assertEqual(behind, sorted(set(setting) ^ {lamp}))
                        self.assertEqual(switched(net, behind, lamp), setting)
                        self.assertEqual(led(net, setting, [lamp, lamp]), setting)
                    else:
                        with self.assertRaises(InvalidLamp) as held:
                            switched(net, setting, lamp)
                        self.assertEqual(held.exception.value, lamp)

    def test_settings_that_are_none(self):
        net = SMALL[-1]
        lamps = net.lamps()
        for value in (lamps[::-1], tuple(lamps), lamps[:1] * 2, lamps + ["z"], "".join(lamps), {lamps[0]: True}):
            self.assertIs(is_setting(net, value), False)
        self.assertIs(is_setting(net, lamps), True)

    def test_roads(self):
        dice = random.Random(5)
        for net in SMALL + GREATER:
            for _ in range(20):
                start = [lamp for lamp in net.lamps() if dice.random() < 0.5]
                road, behind = random_walk(net, start, 12, dice)
                along = led_along(net, start, road)
                self.assertIs(is_road(net, start, road), True)
                self.assertEqual([along[0], along[-1], len(along)], [start, behind, len(road) + 1])
                self.assertEqual(led(net, start, road), behind)
                for now, further, lamp in zip(along, along[1:], road):
                    self.assertEqual(switched(net, now, lamp), further)
                self.assertIs(is_road(net, behind, road[::-1]), True)
                self.assertEqual(led(net, behind, road[::-1]), start)

    def test_roads_that_break_off(self):
        dice = random.Random(6)
        for net in SMALL + GREATER:
            start = [lamp for lamp in net.lamps() if dice.random() < 0.5]
            road, behind = random_walk(net, start, 6, dice)
            for lamp in net.lamps():
                if lamp not in own_ready_lamps(net, behind):
                    for broken in (road + [lamp], road + [lamp] + road[::-1], road + [lamp, lamp]):
                        self.assertIs(is_road(net, start, broken), False)
                        for function in (led, led_along, cut_short):
                            with self.assertRaises(InvalidRoad) as held:
                                function(net, start, broken)
                            self.assertIs(held.exception.value, broken)
            self.assertIs(is_road(net, start, tuple(road)), False)

    def test_the_empty_road(self):
        for net in SMALL:
            lamps = net.lamps()
            self.assertEqual([led(net, lamps, []), led_along(net, lamps, []), cut_short(net, lamps, [])],
                             [lamps, [lamps], []])

    def test_all_lists_of_lamps_are_judged_by_going_along(self):
        net = Net(list("abs"), [("a", "b"), ("b", "s")], {"a": "odd", "b": "even", "s": "stuck"})
        lists = [[]]
        for _ in range(4):
            lists = lists + [road + [lamp] for road in lists for lamp in "abs"]
        for start in all_lots(list("abs")):
            for road in lists:
                now, goes = start, True
                for lamp in road:
                    goes = goes and lamp in own_ready_lamps(net, now)
                    now = sorted(set(now) ^ {lamp})
                self.assertIs(is_road(net, start, road), goes)

    def test_cut_short_word_by_word(self):
        dice = random.Random(7)
        shortened = 0
        for net in SMALL + GREATER:
            for _ in range(25):
                start = [lamp for lamp in net.lamps() if dice.random() < 0.5]
                road, behind = random_walk(net, start, dice.choice([3, 8, 30]), dice)
                left = cut_short(net, start, road)
                self.assertEqual(left, own_cut_short(net.ties(), road))
                self.assertIs(is_road(net, start, left), True)
                self.assertEqual(led(net, start, left), behind)
                self.assertEqual(cut_short(net, start, left), left)
                self.assertEqual(cut_short(net, start, road + road[::-1]), [])
                shortened += len(left) < len(road)
        self.assertGreater(shortened, 100)

    def test_cut_short_by_hand(self):
        far = Net(list("abcx"), [("a", "b"), ("b", "c")], {"a": "odd", "b": "odd", "c": "odd", "x": "even"})
        for road, left in ((["x"], ["x"]), (["x", "x"], []), (["x", "x", "x"], ["x"]), (["x", "a", "x"], ["a"]),
                           (["a", "x", "a", "x"], []), (["a", "c", "x", "a"], ["c", "x"]),
                           (["a", "c", "b", "b", "c", "a"], []), (["a", "c", "b", "x", "b", "x", "a"], ["c"])):
            self.assertEqual(cut_short(far, ["a", "b"], road), left)

    def test_shifted_there_and_back(self):
        dice = random.Random(8)
        for net in SMALL + GREATER:
            for _ in range(6):
                lamps = [lamp for lamp in net.lamps() if dice.random() < 0.4]
                start = [lamp for lamp in net.lamps() if dice.random() < 0.4]
                other = shifted(net, lamps)
                moved = setting_shifted(net, start, lamps)
                self.assertEqual(frozen(shifted(other, lamps)), frozen(net))
                self.assertEqual(moved, sorted(set(start) ^ set(lamps)))
                self.assertEqual(setting_shifted(net, moved, lamps), start)
                self.assertEqual([other.lamps(), other.ties()], [net.lamps(), net.ties()])
                for lamp, wish in net.wishes().items():
                    many = len([near for near in own_near(net.ties(), lamp) if near in lamps])
                    turned = {"odd": "even", "even": "odd", "stuck": "stuck"}[wish]
                    self.assertEqual(other.wishes()[lamp], turned if many % 2 else wish)

    def test_roads_of_the_one_are_roads_of_the_shifted_one(self):
        dice = random.Random(9)
        for net in SMALL + GREATER:
            for _ in range(8):
                lamps = [lamp for lamp in net.lamps() if dice.random() < 0.4]
                start = [lamp for lamp in net.lamps() if dice.random() < 0.4]
                other, moved = shifted(net, lamps), setting_shifted(net, start, lamps)
                road, behind = random_walk(net, start, 9, dice)
                self.assertIs(is_road(other, moved, road), True)
                self.assertEqual(led(other, moved, road), setting_shifted(net, behind, lamps))
                broken = road + [dice.choice(net.lamps())]
                self.assertIs(is_road(other, moved, broken), is_road(net, start, broken))


if __name__ == "__main__":
    unittest.main()
