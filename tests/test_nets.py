"""Points [10] to [15]: nets, their pieces, and nets made of nets."""

import random
import unittest

from helpers import all_lots, frozen, hanging_graphs, own_near, own_pieces, own_ready, random_net
from oddlamps.errors import InvalidLamp, InvalidLamps, LampError, Refused, Unlike
from oddlamps.nets import (
    Net, cut_to, free_lamps, hang_together, is_piece, neighbours, piece_of, pieces, renamed, side_by_side,
    stuck_lamps, without_stuck)

NETS = [random_net(seed, many, share, stuck) for seed, (many, share, stuck) in enumerate(
    [(many, share, stuck) for many in (1, 2, 4, 7, 9) for share in (0.1, 0.3, 0.8) for stuck in (0, 0.3, 0.7, 1)])]


class Nets(unittest.TestCase):
    def test_handed_in_any_order(self):
        dice = random.Random(1)
        for net in NETS:
            lamps, ties, wishes = net.lamps(), net.ties(), net.wishes()
            self.assertEqual([lamps, ties, list(wishes)], [sorted(lamps), sorted(ties), sorted(wishes)])
            for _ in range(3):
                dice.shuffle(lamps)
                dice.shuffle(ties)
                again = Net(lamps, ties, {lamp: wishes[lamp] for lamp in lamps})
                self.assertEqual(frozen(again), frozen(net))
                self.assertTrue(again == net and not again != net)
                for function in (pieces, free_lamps, stuck_lamps):
                    self.assertEqual(frozen(function(again)), frozen(function(net)))

    def test_equal_exactly_if_all_is_told_alike(self):
        made = [Net(["a", "b"], ties, {"a": one, "b": other}) for ties in ([], [("a", "b")])
                for one in ("odd", "even", "stuck") for other in ("odd", "even", "stuck")]
        made.append(Net(["a"], [], {"a": "odd"}))
        made.append(Net(["a", "c"], [("a", "c")], {"a": "odd", "c": "odd"}))
        for at, one in enumerate(made):
            for place, other in enumerate(made):
                self.assertIs(one == other, at == place)
                self.assertIs(one != other, at != place)
            whole = (one.lamps(), one.ties(), one.wishes())
            for thing in (None, True, 1, "a", [], {}, one.lamps(), whole, LampError()):
                self.assertIs(one == thing, False)
                self.assertIs(thing == one, False)
                self.assertIs(one != thing, True)

    def test_edges_of_words(self):
        for words in (["a"], ["abcdefgh"], ["z", "zz", "zzzzzzzz"]):
            self.assertEqual(Net(words, [], {word: "stuck" for word in words}).lamps(), words)
        for word in ("", "abcdefghi", "A", "a1", "a b", " a", "a\n", "a-b", "\t", "~", "0"):
            for words in ([word], ["a", word]):
                with self.assertRaises(InvalidLamps) as held:
                    Net(words, [], {told: "odd" for told in words})
                self.assertIs(held.exception.value, words)

    def test_neighbours_free_and_stuck(self):
        for net in NETS:
            wishes = net.wishes()
            self.assertEqual(free_lamps(net), [lamp for lamp in net.lamps() if wishes[lamp] in ("odd", "even")])
            self.assertEqual(stuck_lamps(net), [lamp for lamp in net.lamps() if wishes[lamp] == "stuck"])
            for lamp in net.lamps():
                self.assertEqual(neighbours(net, lamp), own_near(net.ties(), lamp))

    def test_pieces(self):
        for net in NETS:
            free = free_lamps(net)
            own = [list(piece) for piece in own_pieces(free, net.ties())]
            self.assertEqual(pieces(net), own)
            for piece in own:
                for lamp in piece:
                    self.assertEqual(piece_of(net, lamp), piece)
            for lamp in stuck_lamps(net):
                with self.assertRaises(InvalidLamp) as held:
                    piece_of(net, lamp)
                self.assertEqual(held.exception.value, lamp)
            if len(net.lamps()) <= 7:
                for lot in all_lots(net.lamps()):
                    self.assertIs(is_piece(net, lot), lot in own)
                    self.assertIs(is_piece(net, tuple(lot)), False)
                    if len(lot) > 1:
                        self.assertIs(is_piece(net, lot[::-1]), False)

    def test_one_lamp_and_stuck_lamps_alone(self):
        for wish in ("odd", "even"):
            one = Net(["q"], [], {"q": wish})
            self.assertEqual([pieces(one), piece_of(one, "q"), neighbours(one, "q")], [[["q"]], ["q"], []])
        stuck = Net(["s", "t"], [("s", "t")], {"s": "stuck", "t": "stuck"})
        self.assertEqual([pieces(stuck), free_lamps(stuck), stuck_lamps(stuck)], [[], [], ["s", "t"]])
        self.assertIs(is_piece(stuck, ["s", "t"]), False)
        self.assertIs(hang_together(stuck, ["t", "s"]), True)

    def test_stuck_lamps_part_pieces(self):
        net = Net(["a", "b", "s"], [("a", "s"), ("b", "s")], {"a": "odd", "b": "odd", "s": "stuck"})
        self.assertEqual(pieces(net), [["a"], ["b"]])
        self.assertIs(hang_together(net, ["b", "s", "a"]), True)
        self.assertIs(hang_together(net, ["b", "a"]), False)

    def test_hang_together(self):
        dice = random.Random(2)
        for net in NETS[:48]:
            for lot in all_lots(net.lamps())[1:]:
                dice.shuffle(lot)
                self.assertIs(hang_together(net, lot), len(own_pieces(lot, net.ties())) == 1)

    def test_renamed_there_and_back(self):
        dice = random.Random(3)
        for net in NETS:
            lamps = net.lamps()
            for fresh in (lamps, ["x" + lamp for lamp in lamps], lamps[:1] + ["z" + lamp for lamp in lamps[1:]]):
                fresh = list(fresh)
                dice.shuffle(fresh)
                sent = dict(zip(lamps, fresh))
                other = renamed(net, sent)
                self.assertEqual(other.lamps(), sorted(fresh))
                self.assertEqual(other.wishes(), {sent[lamp]: net.wishes()[lamp] for lamp in lamps})
                for lamp in lamps:
                    self.assertEqual(neighbours(other, sent[lamp]),
                                     sorted(sent[near] for near in neighbours(net, lamp)))
                self.assertEqual(renamed(other, {sent[lamp]: lamp for lamp in lamps}), net)

    def test_cut_to(self):
        dice = random.Random(4)
        for net in NETS[:48]:
            for lot in all_lots(net.lamps())[1:]:
                dice.shuffle(lot)
                cut = cut_to(net, lot)
                self.assertEqual(cut.lamps(), sorted(lot))
                self.assertEqual(cut.ties(), [tie for tie in net.ties() if tie[0] in lot and tie[1] in lot])
                self.assertEqual(cut.wishes(), {lamp: net.wishes()[lamp] for lamp in lot})
            self.assertEqual(cut_to(net, net.lamps()[::-1]), net)

    def test_side_by_side_either_way_about(self):
        for one, other in zip(NETS, NETS[1:]):
            moved = renamed(other, {lamp: "n" + lamp for lamp in other.lamps()})
            both = side_by_side(one, moved)
            self.assertEqual(frozen(both), frozen(side_by_side(moved, one)))
            self.assertEqual(both.lamps(), sorted(one.lamps() + moved.lamps()))
            self.assertEqual(both.ties(), sorted(one.ties() + moved.ties()))
            self.assertEqual(both.wishes(), {**one.wishes(), **moved.wishes()})
            self.assertEqual([cut_to(both, one.lamps()), cut_to(both, moved.lamps())], [one, moved])
            for first, second in ((one, other), (both, moved), (moved, both), (both, both)):
                with self.assertRaises(Unlike) as held:
                    side_by_side(first, second)
                self.assertIs(held.exception.value, second)

    def test_without_stuck_leaves_the_same_lamps_ready(self):
        for net in NETS[:48]:
            for lit in all_lots(stuck_lamps(net)):
                if not free_lamps(net):
                    with self.assertRaises(Refused) as held:
                        without_stuck(net, lit)
                    self.assertIs(held.exception.value, net)
                    continue
                rest = without_stuck(net, lit)
                self.assertEqual(rest.ties(), cut_to(net, free_lamps(net)).ties())
                self.assertEqual(rest.lamps(), free_lamps(net))
                for own in all_lots(rest.lamps())[:20]:
                    for lamp in rest.lamps():
                        self.assertIs(own_ready(rest.wishes(), rest.ties(), own, lamp),
                                      own_ready(net.wishes(), net.ties(), own + lit, lamp))

    def test_without_stuck_by_one_lit_and_two(self):
        net = Net(["a", "s", "t"], [("a", "s"), ("a", "t"), ("s", "t")], {"a": "odd", "s": "stuck", "t": "stuck"})
        told = [without_stuck(net, lit).wishes()["a"] for lit in ([], ["s"], ["t"], ["s", "t"])]
        self.assertEqual(told, ["odd", "even", "even", "odd"])

    def test_all_small_graphs(self):
        for ties in hanging_graphs(4):
            net = Net(list("dcba"), ties[::-1], {lamp: "even" for lamp in "abcd"})
            self.assertEqual([net.ties(), pieces(net)], [sorted(ties), [list("abcd")]])


if __name__ == "__main__":
    unittest.main()
