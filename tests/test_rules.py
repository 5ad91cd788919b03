"""Point [2]: arguments by position and by name, left as they are; results new, equal for equal calls."""

import unittest

import all_rows
import rows
from helpers import frozen, odd_net, spoil, thawed, turned_about
from oddlamps import hall, papers, scripts
from oddlamps.hall import Hall
from oddlamps.nets import Net
from oddlamps.points import are_points, put_in_order, rise


class Rules(unittest.TestCase):
    def each_call(self):
        for function, parameters in all_rows.ROWS:
            with self.subTest(function=function.__name__):
                yield function, [parameter[0] for parameter in parameters], [parameter[1] for parameter in parameters]

    def test_arguments_by_name(self):
        for function, names, right in self.each_call():
            answer = frozen(function(*right))
            self.assertEqual(frozen(function(**dict(zip(names, right)))), answer)
            self.assertEqual(frozen(function(**dict(zip(names[::-1], right[::-1])))), answer)

    def test_parameters_have_no_other_names(self):
        for function, names, _ in self.each_call():
            code = (function.__init__ if function is Net else function).__code__
            told = list(code.co_varnames[:code.co_argcount])
            self.assertEqual(told[1:] if function is Net else told, names)

    def test_arguments_are_not_changed(self):
        for function, _, right in self.each_call():
            before = frozen(right)
            function(*right)
            self.assertEqual(frozen(right), before)

    def test_what_was_returned_may_be_changed(self):
        for function, _, right in self.each_call():
            before = frozen(right)
            answer = function(*right)
            shape = frozen(answer)
            for _ in range(2):
                if isinstance(answer, Net):
                    for told in (answer.lamps(), answer.ties(), answer.wishes()):
                        spoil(told)
                    self.assertEqual(frozen(answer), shape)
                spoil(answer)
                answer = function(*right)
                self.assertEqual(frozen(answer), shape)
            self.assertEqual(frozen(right), before)

    def test_what_was_passed_may_be_changed(self):
        for function, _, right in self.each_call():
            passed = [thawed(thing) for thing in right]
            answer = function(*passed)
            shape = frozen(answer)
            for thing in passed:
                spoil(thing)
            self.assertEqual(frozen(answer), shape)
            self.assertEqual(frozen(function(*right)), shape)

    def test_equal_nets_answer_the_same(self):
        for function, _, right in self.each_call():
            equal = [Net(thing.lamps()[::-1], thing.ties()[::-1], turned_about(thing.wishes()))
                     if isinstance(thing, Net) else thing for thing in right]
            self.assertEqual(frozen(function(*equal)), frozen(function(*right)))

    def test_the_order_of_keys_means_nothing(self):
        for function, _, right in self.each_call():
            self.assertEqual(frozen(function(*[turned_about(thing) for thing in right])), frozen(function(*right)))

    def test_interface_is_whole(self):
        """The names of the interface, as the document lists them for these modules."""
        listed = {
            "nets": "Net neighbours free_lamps stuck_lamps hang_together pieces piece_of is_piece renamed cut_to "
                    "side_by_side without_stuck",
            "settings": "is_setting lit_neighbours is_ready ready_lamps switched still_pieces is_road led led_along "
                        "cut_short shifted setting_shifted",
            "points": "are_points is_paired points_of put_in_order many_ways all_points lamps_at doubles far moves "
                      "moved are_moves fewest_moves shortest_moves are_shortest_moves rise steepest is_steepest",
            "lists": "sum_of meets_oddly is_idle idle_base is_idle_base rank solved is_solved why_unsolved "
                     "is_why_unsolved still_number still_setting planes are_planes",
            "signs": "turn turns turned_by sign signs sign_with alike_stuck",
            "works": "is_work worked_list worked deeds_of exchanged setting_exchanged",
            "cores": "is_core core_of kind_of left_of all_cores in_all_cores",
            "tempers": "is_round round_stock is_round_stock odd_round is_odd_round temper even_points heights "
                       "are_heights marked_by round_road is_round_road",
            "joining": "joined joined_pieces parting_pieces why_apart is_why_apart nearest_joined is_nearest_joined "
                       "least_unlike joined_with helping_lamps",
            "ways": "piece_bound way_bound piece_way is_piece_way way_between is_way",
            "roads": "fewest_deeds shortest_road is_shortest_road many_shortest first_deeds class_of by_deeds farthest "
                     "is_farthest width",
            "numbers": "by_sign by_planes by_marks class_size class_number classes_by_size whole_size whole_number "
                       "still_by_sign",
            "seen": "is_show is_so can_show shown is_shown many_shown why_dark is_why_dark all_together most_told "
                    "is_most_told least_weight lightest is_lightest lit_numbers",
            "families": "row_net ring_net star_net full_net wheel_net comb_net ladder_net in_order is_in_order forms "
                        "kind_by_forms is_tree fork is_fork shorn",
            "changes": "changed changed_by setting_along kinds_changed keeps_paired tie_sets_number needed_ties "
                       "linking_ties parting_lots",
            "glue": "tied met lone_points leafy_points are_lone_points are_leafy_points tied_kind met_kind",
            "hall": "replayed", "scripts": "script_text end_of shortened",
            "papers": "net_text read_net change_text read_change"}
        tested = {(function.__module__, function.__name__) for function, _, _ in self.each_call()}
        self.assertEqual(sorted(tested), sorted(("oddlamps." + place, name) for place in listed
                                                for name in listed[place].split()))
        for name in ("lamps", "ties", "wishes", "__eq__"):
            self.assertIn(name, vars(Net))
        for name in ("put take spots net_there setting_there aim_there switch ready_there lead aim let_go is_met "
                     "is_way way push tie rewish lay alike_spots trial attempt copy undo redo log").split():
            self.assertIn(name, vars(Hall))
        # What changes a hall, and what takes texts that are lists of words, has tests of its own.
        for place, names in ((papers, "read_road road_text"), (scripts, "play read_script"), (hall, "Hall")):
            for name in names.split():
                self.assertEqual(getattr(place, name).__module__, place.__name__)

    def test_true_is_not_one_after_a_call_with_one(self):
        """A call with 1 and one with True are unlike, whichever comes first."""
        net, piece = odd_net(2, [("a", "b")]), ["a", "b"]
        for _ in range(2):
            self.assertIs(are_points(net, piece, {"a": (0, 1), "b": (1, 2)}), True)
            self.assertIs(are_points(net, piece, {"a": (0, True), "b": (True, 2)}), False)
            self.assertIs(are_points(net, piece, {"a": (False, 1), "b": (1, 2)}), False)

    def test_whole_numbers_of_any_sign_and_size(self):
        net, piece = odd_net(2, [("a", "b")]), ["a", "b"]
        points = {"a": (0, 1), "b": (1, 2)}
        for low in (-10 ** 40, -3, 0, 10 ** 40):
            self.assertEqual(rise(net, piece, points, [0], [2], {0: low, 1: low + 1, 2: low + 2}), 2)
        self.assertIs(are_points(net, piece, {"a": (0, 10 ** 40), "b": (1, 10 ** 40)}), False)

    def test_results_may_be_passed_again(self):
        net, piece = rows.NET, rows.PIECE
        self.assertEqual(put_in_order(net, piece, put_in_order(net, piece, rows.POINTS)),
                         put_in_order(net, piece, rows.POINTS))
        self.assertEqual(Net(net.lamps(), net.ties(), net.wishes()), net)


if __name__ == "__main__":
    unittest.main()
