"""Point [3] for glue, halls, scripts and papers: calls at the limits answer, and a little beyond them, too."""

import random
import unittest

from great import NAMES, great_pieces, great_tuples, net_of_tuples, random_great, timed
from helpers import Net, frozen, made_net, own_sum, random_walk
from oddlamps.errors import InvalidScript
from oddlamps.glue import met, tied
from oddlamps.hall import Hall, replayed
from oddlamps.joining import joined
from oddlamps.nets import renamed
from oddlamps.papers import change_text, net_text, read_change, read_net, read_road, road_text
from oddlamps.scripts import end_of, play, read_script, script_text, shortened
from test_hall import whole
from test_limits_joining import any_setting, there_and_back

GREAT = [(net, piece) for net, piece in great_pieces() if len(piece) == 24]


def great_hall(dice):
    """Return a hall with four nets of 24 free lamps and more."""
    hall = Hall()
    for net, _ in dice.sample(GREAT, 4):
        hall.put(net, any_setting(net, dice))
    return hall


class Halls(unittest.TestCase):
    def test_four_great_nets_and_a_hundred_commands(self):
        dice = random.Random(1)
        for _ in range(3):
            hall = great_hall(dice)
            for at in range(110):
                spot = dice.randrange(4)
                net, setting = hall.net_there(spot), hall.setting_there(spot)
                ready = hall.ready_there(spot)
                if at % 4 == 0:
                    aim = random_walk(net, setting, 200, dice)[1]
                    timed(self, hall.aim, spot, aim)
                    way = timed(self, hall.way, spot)
                    self.assertIs(timed(self, hall.is_way, spot, way), True)
                    timed(self, hall.lead, spot, way)
                    self.assertIs(timed(self, hall.is_met, spot), True)
                    timed(self, hall.let_go, spot)
                elif at % 4 == 1:
                    timed(self, hall.tie, spot, dice.choice(net.ties()))
                elif at % 4 == 2:
                    timed(self, hall.rewish, spot, dice.choice(net.lamps()), dice.choice(["odd", "even", "stuck"]))
                elif ready:
                    timed(self, hall.switch, spot, dice.choice(ready))
                timed(self, hall.alike_spots, spot)
            log = timed(self, hall.log)
            self.assertGreater(len(log), 100)
            again = replayed(Hall(), log)
            self.assertEqual(frozen(again), frozen(hall))
            for _ in log:
                timed(self, hall.undo)
            self.assertEqual(hall.spots(), [])
            for _ in log:
                timed(self, hall.redo)
            self.assertEqual(frozen(again), frozen(hall))

    def test_great_nets_side_by_side(self):
        hall = Hall()
        one, _ = random_great(1, 24, 0.1, 3)
        other = made_net("abcdefghijklmn", "ab bc cd de cf hi ij jk kl lm mn hn", "!g a")
        setting, more = any_setting(one, random.Random(2)), any_setting(other, random.Random(3))
        hall.put(one, setting)
        hall.put(other, more)
        self.assertIsNone(timed(self, hall.lay, 1, 0))
        self.assertEqual([hall.setting_there(1), len(hall.net_there(1).lamps())], [own_sum(setting, more), 41])
        hall.put(hall.net_there(1), hall.setting_there(1))
        self.assertEqual(timed(self, hall.alike_spots, 2), [1])

    def test_roads_of_2500_deeds(self):
        dice = random.Random(4)
        for net, _ in GREAT[::4]:
            hall, one = Hall(), any_setting(net, dice)
            hall.put(net, one)
            hall.aim(0, one)
            for many in (2500, 2600):
                road = there_and_back(net, one, many, dice)
                self.assertIs(timed(self, hall.is_way, 0, road), True)
                self.assertIsNone(timed(self, hall.lead, 0, road))
                self.assertEqual(hall.setting_there(0), one)

    def test_ten_blocks_within_one_another_and_two_more(self):
        hall = great_hall(random.Random(5))
        shape, shapes = whole(hall), []

        def deeper(given, deep):
            if deep:
                ahead = frozen(given)
                given.take(given.spots()[0])
                given.put(made_net("ab", "ab"), ["a"])
                told = given.attempt(lambda inner: deeper(inner, deep - 1))
                given.undo()
                given.undo()
                self.assertEqual(frozen(given), ahead)
                return told + 1
            shapes.append(frozen(given))
            return 0

        for deep in (10, 12):
            self.assertEqual(hall.attempt(lambda given, deep=deep: deeper(given, deep)), deep)
            self.assertEqual(whole(hall), shape)
        blocks = [hall.trial() for _ in range(12)]
        for block in blocks:
            block.__enter__()
            hall.undo() if hall.log() else hall.put(made_net("ab", "ab"), [])
        for block in reversed(blocks):
            block.__exit__(None, None, None)
        self.assertEqual([whole(hall), len(shapes)], [shape, 2])


class Scripts(unittest.TestCase):
    def script(self, dice, many=12, deep=4):
        """Return a script of so many commands, with tries so deep."""
        net, _ = dice.choice(GREAT)
        setting = any_setting(net, dice)
        road, behind = random_walk(net, setting, 60, dice)
        tie = dice.choice(net.ties())
        script = [("put", net, setting), ("lead", 0, road), ("aim", 0, setting), ("is_met", 0), ("let_go", 0),
                  ("tie", 0, tie), ("rewish", 0, tie[0], "even"), ("undo",), ("redo",), ("alike_spots", 0),
                  ("ready_there", 0), ("put", net, behind), ("lay", 0, 1)]
        if deep:
            script[5] = ("try", self.script(dice, 3, deep - 1))
        return script[:many]

    def test_scripts_of_twelve_commands_with_tries_four_deep_and_some_more(self):
        dice = random.Random(6)
        for many, deep in ((12, 4), (13, 5), (12, 0)):
            for _ in range(3):
                script = self.script(dice, many, deep)
                said = timed(self, play, Hall(), script)
                self.assertEqual([len(said), said[1]], [many, ("done",)])
                text = timed(self, script_text, script)
                self.assertEqual(frozen(timed(self, read_script, text)), frozen(script))
                end, left = timed(self, end_of, script), timed(self, shortened, script)
                self.assertEqual(end_of(left), end)
                self.assertTrue(not [command for command in left if command[0] in ("try", "is_met", "ready_there")])

    def test_tries_nested_deep(self):
        script = []
        for _ in range(36):
            script = [("try", script)]
        self.assertEqual(read_script(script_text(script)), script)
        self.assertEqual([len(script_text(script).split("\n")), end_of(script), shortened(script)], [72, {}, []])
        with self.assertRaises(InvalidScript):
            play(Hall(), [("try", [script[0], None])])

    def test_texts_of_250_lines_and_more(self):
        dice = random.Random(7)
        net = Net(NAMES[:40], [(one, other) for one in NAMES[:40] for other in NAMES[:40] if one < other],
                  {lamp: dice.choice(["odd", "even", "stuck"]) for lamp in NAMES[:40]})
        script = [("put", net, NAMES[:40])] * 6 + [("undo",)] * 8
        text = timed(self, script_text, script)
        self.assertEqual(len(text.split("\n")), 260)
        self.assertEqual(frozen(timed(self, read_script, text)), frozen(script))
        script = [("try", [("take", 10 ** 29 + at), ("try", [])]) for at in range(50)]
        self.assertEqual(timed(self, read_script, timed(self, script_text, script)), script)


class Papers(unittest.TestCase):
    def test_texts_of_great_nets(self):
        for net, piece in GREAT:
            self.assertEqual(frozen(timed(self, read_net, timed(self, net_text, net))), frozen(net))
            change = ("put", "q", "odd", piece)
            self.assertEqual(read_change(change_text(change)), change)
            road = piece * 105
            self.assertEqual(timed(self, read_road, timed(self, road_text, road)), road)

    def test_great_nets_that_are_glued(self):
        dice = random.Random(8)
        for tuples in great_tuples(24)[:4]:
            net, piece = net_of_tuples(tuples, 4)
            other = renamed(net, {lamp: "z" + lamp for lamp in net.lamps()})
            both = timed(self, tied, net, other, piece[0], "z" + piece[3])
            self.assertEqual(len(both.ties()), 2 * len(net.ties()) + 1)
            there = renamed(net, {lamp: lamp if lamp == piece[5] else "z" + lamp for lamp in net.lamps()})
            self.assertEqual(len(timed(self, met, net, there, piece[5]).lamps()), 2 * len(net.lamps()) - 1)
            one = any_setting(both, dice)
            self.assertIs(timed(self, joined, both, one, random_walk(both, one, 200, dice)[1]), True)


if __name__ == "__main__":
    unittest.main()
