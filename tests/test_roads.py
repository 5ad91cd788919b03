"""Points [61] to [64]: fewest deeds, shortest roads, classes, farthest settings and width, against walks of ALL."""

import random
import unittest

from helpers import (
    COMB, all_lots, frozen, made_net, own_near, own_net_pieces, own_reached, own_ready, own_sum, random_net,
    random_walk, small_nets)
from oddlamps.roads import (
    by_deeds, class_of, farthest, fewest_deeds, first_deeds, is_farthest, is_shortest_road, many_shortest,
    shortest_road, width)
from oddlamps.settings import is_road

NETS = small_nets() + [random_net(seed, 6, 0.3, 0.2) for seed in range(8)] + [
    made_net("abxy", "ab xy", "x"), made_net("abcxyz", "ab bc xy yz", "y"), made_net("abc", "", "a b"),
    made_net("abxyzs", "ab xy as xs", "z !s"), made_net("st", "st", "!s !t"),
    made_net("abcmno", "ab bc ac mn no mo", "m")]


def own_steps(net, setting):
    """Return the settings to which one deed leads, by the lamps."""
    ready = [lamp for lamp in net.lamps() if own_ready(net.wishes(), net.ties(), setting, lamp)]
    return {lamp: tuple(own_sum(setting, [lamp])) for lamp in ready}


def own_many(net, setting, reached):
    """Return for all settings of a class how many shortest roads lead there: those of ALL deeds before the last one."""
    many = {tuple(setting): 1}
    for now in sorted(reached, key=reached.get):
        if reached[now]:
            many[now] = sum(many[step] for step in own_steps(net, now).values() if reached[step] < reached[now])
    return many


class FewestDeeds(unittest.TestCase):
    def test_against_walks(self):
        for net in NETS:
            settings = all_lots(net.lamps())
            dice = random.Random(len(settings))
            for one in dice.sample(settings, min(10, len(settings))):
                reached = own_reached(net, one)
                many = own_many(net, one, reached)
                for other in dice.sample(settings, min(20, len(settings))) + [list(now) for now in list(reached)[::9]]:
                    self.check(net, one, other, reached.get(tuple(other)), many.get(tuple(other), 0))

    def check(self, net, one, other, fewest, many):
        self.assertEqual(frozen(fewest_deeds(net, one, other)), frozen(fewest))
        self.assertEqual(frozen(many_shortest(net, one, other)), frozen(many))
        road = shortest_road(net, one, other)
        back = own_reached(net, other)
        first = [lamp for lamp, step in own_steps(net, one).items() if fewest and back[step] == fewest - 1]
        self.assertEqual(first_deeds(net, one, other), first)
        self.assertIs(is_shortest_road(net, one, other, road), fewest is not None)
        if fewest is None:
            self.assertEqual([road, is_shortest_road(net, one, other, [])], [None, False])
            return
        now = one
        for lamp in road:
            now = list(own_steps(net, now)[lamp])
        self.assertEqual([now, len(road)], [other, fewest])
        self.assertIs(road[0] in first if road else not first, True)
        values = [road[:-1], road[1:], tuple(road), road + [None], road[::-1]]
        values.extend(road + [lamp, lamp] for lamp in net.lamps())
        for value in values:
            right = isinstance(value, list) and is_road(net, one, value) and len(value) == fewest
            if right:
                now = one
                for lamp in value:
                    now = own_sum(now, [lamp])
                right = now == other
            self.assertIs(is_shortest_road(net, one, other, value), right)

    def test_all_shortest_roads_are_judged_and_counted(self):
        """All lists of lamps that lead there in as few deeds as can be, gone through one by one."""
        for net, one in ((made_net("abxy", "ab xy", "x"), ["a", "y"]), (made_net("abcdef", COMB), ["c"]),
                         (made_net("abc", "", "a b c"), []),
                         (made_net("abcmno", "ab bc ac mn no mo", "m"), ["a", "n"])):
            roads = {tuple(one): [[]]}
            reached = own_reached(net, one)
            for now in sorted(reached, key=reached.get):
                for lamp, step in own_steps(net, list(now)).items():
                    if reached[step] == reached[now] + 1:
                        roads.setdefault(step, []).extend(road + [lamp] for road in roads[now])
            for other in roads:
                told = [is_shortest_road(net, one, list(other), road) for road in roads[other]]
                self.assertTrue(all(told))
                for end in roads:
                    if end != other and reached[end] == reached[other]:
                        self.assertIs(is_shortest_road(net, one, list(other), roads[end][0]), False)
                self.assertEqual(many_shortest(net, one, list(other)), len(told))
                self.assertEqual(first_deeds(net, one, list(other)), sorted({road[0] for road in roads[other] if road}))
                self.assertIn(shortest_road(net, one, list(other)), roads[other])

    def test_from_one_to_itself_and_to_none(self):
        for net in NETS:
            for setting in all_lots(net.lamps())[::7]:
                told = [fewest_deeds(net, setting, setting), shortest_road(net, setting, setting),
                        many_shortest(net, setting, setting), first_deeds(net, setting, setting),
                        is_shortest_road(net, setting, setting, [])]
                self.assertEqual(frozen(told), frozen([0, [], 1, [], True]))
        net = made_net("abs", "ab bs", "!s")
        for other in (["s"], ["a", "s"], []):
            told = [fewest_deeds(net, ["a"], other), shortest_road(net, ["a"], other), many_shortest(net, ["a"], other),
                    first_deeds(net, ["a"], other), is_shortest_road(net, ["a"], other, [])]
            self.assertEqual(frozen(told), frozen([None, None, 0, [], False]))


class Classes(unittest.TestCase):
    def test_classes_against_walks(self):
        for net in NETS:
            settings = all_lots(net.lamps())
            for one in random.Random(len(settings)).sample(settings, min(12, len(settings))):
                reached = own_reached(net, one)
                self.assertEqual(class_of(net, one), sorted([list(now) for now in reached]))
                deeds = list(reached.values())
                numbers = [deeds.count(many) for many in range(max(deeds) + 1)]
                self.assertEqual(frozen(by_deeds(net, one)), frozen(numbers))
                self.assertEqual(reached[tuple(farthest(net, one))], max(deeds))
                for value in settings[::3] + [farthest(net, one)]:
                    self.assertIs(is_farthest(net, one, value), reached.get(tuple(value)) == max(deeds))
                for value in (tuple(farthest(net, one)), None, [farthest(net, one)], farthest(net, one) + ["a"]):
                    self.assertIs(is_farthest(net, one, value), False)

    def test_width_against_walks(self):
        for net in NETS:
            settings = all_lots(net.lamps())
            for one in random.Random(len(settings)).sample(settings, min(3, len(settings))):
                widest = max(max(own_reached(net, list(now)).values()) for now in own_reached(net, one))
                self.assertEqual(frozen(width(net, one)), frozen(widest))

    def test_still_settings_are_alone(self):
        seen = 0
        for net in NETS:
            for setting in all_lots(net.lamps()):
                if not own_steps(net, setting):
                    told = [class_of(net, setting), by_deeds(net, setting), farthest(net, setting), width(net, setting)]
                    self.assertEqual(frozen(told), frozen([[setting], [1], setting, 0]))
                    self.assertIs(is_farthest(net, setting, setting), True)
                    seen += 1
        self.assertGreater(seen, 20)

    def test_pieces_go_with_one_another(self):
        net = made_net("abcxyz", "ab bc xy yz", "y")
        one = ["a", "x"]
        alone = [made_net("abc", "ab bc"), made_net("xyz", "xy yz", "y")]
        classes = [class_of(alone[0], ["a"]), class_of(alone[1], ["x"])]
        self.assertEqual(class_of(net, one),
                         sorted(sorted(first + last) for first in classes[0] for last in classes[1]))
        self.assertEqual(width(net, one), width(alone[0], ["a"]) + width(alone[1], ["x"]))
        self.assertEqual([own_net_pieces(net), own_near(net.ties(), "y")], [[list("abc"), list("xyz")], ["x", "z"]])

    def test_a_walk_stays_in_its_class(self):
        dice = random.Random(9)
        for net in NETS:
            start = [lamp for lamp in net.lamps() if dice.random() < 0.5]
            _, behind = random_walk(net, start, 12, dice)
            self.assertEqual(class_of(net, start), class_of(net, behind))
            self.assertEqual(width(net, start), width(net, behind))


if __name__ == "__main__":
    unittest.main()
