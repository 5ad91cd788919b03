"""Points [2] and [5]: wrong arguments of each function, one by one and together."""

import unittest

import all_rows
from helpers import frozen
from oddlamps.changes import linking_ties
from oddlamps.errors import InvalidLamps, InvalidNet, InvalidSetting, Refused, Unlike
from oddlamps.hall import Hall
from oddlamps.nets import Net, side_by_side, without_stuck


def wrong_ones(parameter):
    """Return wrong arguments for a parameter: those of its row, and such as nothing wants."""
    name, right, _, wrong = parameter
    known = [frozen(right)] + [frozen(thing) for thing in wrong]
    return wrong + [thing for thing in all_rows.NOTHINGS if frozen(thing) not in known
                    and not (name == "hall" and isinstance(thing, Hall))]


class Wrong(unittest.TestCase):
    def refuses(self, function, arguments, error, value):
        before = frozen(arguments)
        with self.assertRaises(Exception) as held:
            function(*arguments)
        self.assertIs(type(held.exception), error, (function, arguments))
        self.assertIs(held.exception.value, value)
        self.assertEqual(frozen(arguments), before)

    def refuses_by_name(self, function, names, arguments, error, value):
        with self.assertRaises(Exception) as held:
            function(**dict(zip(names, arguments)))
        self.assertIs(type(held.exception), error)
        self.assertIs(held.exception.value, value)

    def test_each_wrong_argument_of_each_function(self):
        for function, parameters in all_rows.ROWS:
            names = [parameter[0] for parameter in parameters]
            right = [parameter[1] for parameter in parameters]
            for at, parameter in enumerate(parameters):
                if parameter[2] is None:
                    continue
                for wrong in wrong_ones(parameter):
                    with self.subTest(function=function.__name__, name=parameter[0], wrong=wrong):
                        arguments = right[:at] + [wrong] + right[at + 1:]
                        self.refuses(function, arguments, parameter[2], wrong)
                        self.refuses_by_name(function, names, arguments, parameter[2], wrong)

    def test_the_first_wrong_argument_is_told(self):
        for function, parameters in all_rows.ROWS:
            right = [parameter[1] for parameter in parameters]
            for at, parameter in enumerate(parameters):
                if parameter[2] is None:
                    continue
                for wrong in wrong_ones(parameter)[::3]:
                    for behind in (None, True, [None], ("a",), {"a": None}):
                        arguments = right[:at] + [wrong] + [behind] * (len(right) - at - 1)
                        self.refuses(function, arguments, parameter[2], wrong)

    def test_judges_tell_false_of_anything_else(self):
        judged = 0
        for function, parameters in all_rows.ROWS:
            right = [parameter[1] for parameter in parameters]
            if parameters[-1][2] is None:
                judged += 1
                self.assertIs(function(*right), True, function)
                for wrong in wrong_ones(parameters[-1]):
                    before = frozen(wrong)
                    self.assertIs(function(*right[:-1], wrong), False, (function, wrong))
                    self.assertEqual(frozen(wrong), before)
        self.assertEqual(judged, 34)

    def test_judges_raise_for_other_arguments_whatever_they_judge(self):
        for function, parameters in all_rows.ROWS:
            right = [parameter[1] for parameter in parameters]
            if parameters[-1][2] is None:
                for thing in all_rows.NOTHINGS + [right[-1]]:
                    self.refuses(function, [None] + right[1:-1] + [thing], InvalidNet, None)

    def test_settings_of_nets_without_free_or_without_stuck_lamps(self):
        """What is asked piece by piece, or stuck lamp by stuck lamp, asks nothing there, and yet refuses."""
        nets = [Net(["a", "b"], [("a", "b")], {"a": wish, "b": wish}) for wish in ("stuck", "odd")]
        refused = 0
        for function, parameters in all_rows.ROWS:
            names = [name for name, _, error, _ in parameters if error is InvalidSetting]
            if names and [name for name, _, _, _ in parameters] == ["net"] + names:
                for net in nets:
                    if function is not linking_ties:
                        function(net, *[[] for _ in names])
                    for at in range(len(names)):
                        for wrong in (["s"], ["b", "a"], ("a",), None, ["a", "a"], "a"):
                            arguments = [net] + [["a"]] * at + [wrong] + [None] * (len(names) - at - 1)
                            self.refuses(function, arguments, InvalidSetting, wrong)
                            refused += 1
        self.assertGreater(refused, 300)

    def test_nets_side_by_side_share_no_lamp(self):
        one, other = Net(["a", "b"], [], {"a": "odd", "b": "odd"}), Net(["b"], [], {"b": "odd"})
        self.refuses(side_by_side, [one, other], Unlike, other)
        self.refuses(side_by_side, [other, one], Unlike, one)
        self.refuses(side_by_side, [one, one], Unlike, one)
        for wrong in ([], None, "b"):
            self.refuses(side_by_side, [one, wrong], InvalidNet, wrong)
            self.refuses(side_by_side, [wrong, one], InvalidNet, wrong)

    def test_nets_without_a_free_lamp_are_refused(self):
        dark = Net(["s", "t"], [("s", "t")], {"s": "stuck", "t": "stuck"})
        for lit in ([], ["s"], ["s", "t"]):
            self.refuses(without_stuck, [dark, lit], Refused, dark)
        for lit in (["a"], ["t", "s"], None, ("s",)):
            self.refuses(without_stuck, [dark, lit], InvalidLamps, lit)


if __name__ == "__main__":
    unittest.main()
