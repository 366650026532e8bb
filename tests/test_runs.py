"""Promise 8: runs, their steps and faults; Values check."""

import inspect
import random
import unittest

from castforms.errors import InvalidExpression, InvalidModel, InvalidValues, InvalidVariables, NotAdmitted
from castforms.models import converted, limits, width
from castforms.runs import mathematical, run, steps
from support import KINDS, LP32, RunByPromise, all_models, all_values, is_admitted, raised, random_tree
from support import random_variables

TINY = ((2, 3, 4, 6, 8), "s")
X, Y, Z = ("var", "x"), ("var", "y"), ("var", "z")
TRUE, FALSE = ("less", ("lit", 0, ""), ("lit", 1, "")), ("less", ("lit", 1, ""), ("lit", 1, ""))
MODELS = [
    LP32, TINY, ((2, 2, 2, 2, 2), "s"), ((2, 2, 2, 2, 2), "u"), ((3, 3, 4, 4, 5), "u"), ((128,) * 5, "s"),
    ((2, 2, 128, 128, 128), "u"), ((8, 16, 32, 64, 128), "s"),
]


def true_at(*path):
    return [(path, "first", 0), (path, "second", 1)]


def false_at(*path):
    return [(path, "first", 1), (path, "second", 1)]


class Runs(unittest.TestCase):
    def check(self, model, variables, expression, values, taken, answer):
        with self.subTest(model=model, variables=variables, expression=expression, values=values):
            self.assertEqual(list(steps(model, variables, expression, values)), taken)
            self.assertEqual(run(model, variables, expression, values), answer)
            self.assertIs(type(run(model, variables, expression, values)[1]), type(answer[1]))

    def check_number(self, model, variables, expression, values, numbers, answer):
        """Checks a node with no steps but `first`, `second` and `result`; no number for a result is a fault."""
        words = {1: ["result"], 2: ["first", "second"], 3: ["first", "second", "result"]}[len(numbers)]
        self.check(model, variables, expression, values,
                   [((), word, number) for word, number in zip(words, numbers)], answer)


class Leaves(Runs):
    def test_no_steps(self):
        self.check(LP32, [("x", "int", -5, 5)], X, {"x": -5}, [], ("value", -5))
        self.check(LP32, [], ("lit", 70000, "u"), {}, [], ("value", 70000))


class Pairs(Runs):
    def test_sums_differences_products(self):
        variables = [("x", "int", -20, 20), ("y", "int", -20, 20)]
        model = ((4, 4, 6, 6, 6), "s")
        for x, y in ((3, 4), (-3, 4), (5, -6), (15, 16), (16, 16), (-16, -16), (-16, -17), (20, 20), (-20, 20)):
            for word, number in (("add", x + y), ("sub", x - y), ("mul", x * y)):
                held = -32 <= number <= 31
                self.check_number(model, variables, (word, X, Y), {"x": x, "y": y}, [x, y, number if held else None],
                                  ("value", number) if held else ("fault", "overflow", ()))

    def test_unsigned_results(self):
        variables = [("x", "uint", 0, 63), ("y", "uint", 0, 63)]
        model = ((4, 4, 6, 6, 6), "s")
        for x, y in ((0, 0), (0, 1), (1, 0), (63, 1), (63, 63), (32, 32), (8, 8)):
            for word, number in (("add", x + y), ("sub", x - y), ("mul", x * y)):
                self.check_number(model, variables, (word, X, Y), {"x": x, "y": y}, [x, y, number % 64],
                                  ("value", number % 64))

    def test_parts_are_converted(self):
        variables = [("x", "int", -5, 5), ("y", "uint", 0, 65535)]
        self.check_number(LP32, variables, ("add", X, Y), {"x": -1, "y": 2}, [65535, 2, 1], ("value", 1))
        self.check_number(LP32, variables, ("sub", Y, X), {"x": -1, "y": 2}, [2, 65535, 3], ("value", 3))
        self.check_number(LP32, variables, ("mul", X, Y), {"x": -2, "y": 3}, [65534, 3, 65530], ("value", 65530))
        self.check_number(LP32, variables, ("less", X, Y), {"x": -1, "y": 0}, [65535, 0], ("value", False))
        self.check_number(LP32, variables, ("most", Y, X), {"x": -1, "y": 7}, [7, 65535], ("value", True))

    def test_comparisons(self):
        variables = [("x", "char", -5, 5), ("y", "long", -5, 5)]
        for x in (-1, 0, 1):
            self.check_number(LP32, variables, ("less", X, Y), {"x": x, "y": 0}, [x, 0], ("value", x < 0))
            self.check_number(LP32, variables, ("most", X, Y), {"x": x, "y": 0}, [x, 0], ("value", x <= 0))

    def test_parts_come_ahead(self):
        variables = [("x", "int", -5, 5), ("y", "uint", 0, 9), ("z", "char", 0, 5)]
        self.check(LP32, variables, ("add", ("neg", X), ("mul", Y, Z)), {"x": 3, "y": 4, "z": 5}, [
            ((0,), "result", -3), ((1,), "first", 4), ((1,), "second", 5), ((1,), "result", 20),
            ((), "first", 65533), ((), "second", 20), ((), "result", 17)], ("value", 17))


class Ends(Runs):
    """`overflow` at each end of a signed type and one beyond."""

    def test_each_signed_type(self):
        for model in MODELS:
            for kind in ("int", "long", "wide"):
                low, high = limits(model, kind)
                for expression, x, y, exact in (
                        (("add", X, Y), high, 0, high), (("add", X, Y), high, 1, None), (("add", X, Y), low, -1, None),
                        (("add", X, Y), low + 1, -1, low), (("sub", X, Y), low, 0, low), (("sub", X, Y), low, 1, None),
                        (("sub", X, Y), high, -1, None), (("sub", X, Y), -1, high, low),
                        (("sub", X, Y), 0, low, None), (("mul", X, Y), low, 1, low), (("mul", X, Y), low, -1, None),
                        (("mul", X, Y), high, -1, -high), (("mul", X, Y), low, low, None)):
                    values = {"x": x, "y": y}
                    variables = [("x", kind, x, x), ("y", kind, y, y)]
                    self.check_number(model, variables, expression, values, [x, y, exact],
                                      ("fault", "overflow", ()) if exact is None else ("value", exact))
                self.check_number(model, [("x", kind, high, high)], ("neg", X), {"x": high}, [-high], ("value", -high))
                self.check_number(model, [("x", kind, low, low)], ("neg", X), {"x": low}, [None],
                                  ("fault", "overflow", ()))

    def test_shl(self):
        model = ((4, 4, 6, 6, 6), "s")
        for x, k, exact in ((15, 1, 30), (16, 1, None), (7, 2, 28), (8, 2, None), (1, 4, 16), (1, 5, None), (0, 5, 0)):
            self.check_number(model, [("x", "int", 0, 31)], ("shl", X, k), {"x": x}, [exact],
                              ("fault", "overflow", ()) if exact is None else ("value", exact))


class OnePart(Runs):
    def test_neg(self):
        self.check_number(LP32, [("x", "ushort", 0, 9)], ("neg", X), {"x": 1}, [65535], ("value", 65535))
        self.check_number(LP32, [("x", "ushort", 0, 9)], ("neg", X), {"x": 0}, [0], ("value", 0))
        self.check_number(LP32, [("x", "uchar", 0, 9)], ("neg", X), {"x": 1}, [-1], ("value", -1))
        self.check_number(((8, 8, 8, 8, 8), "u"), [("x", "char", 0, 9)], ("neg", X), {"x": 1}, [255], ("value", 255))

    def test_shr_rounds_down(self):
        for x, k, number in ((7, 0, 7), (7, 1, 3), (-7, 0, -7), (-7, 1, -4), (-7, 2, -2), (-1, 15, -1), (7, 15, 0),
                             (-8, 3, -1), (-9, 3, -2)):
            self.check_number(LP32, [("x", "int", -9, 9)], ("shr", X, k), {"x": x}, [number], ("value", number))
        self.check_number(LP32, [("x", "uint", 0, 65535)], ("shr", X, 15), {"x": 65535}, [1], ("value", 1))

    def test_shl_of_unsigned_types(self):
        for x, k in ((1, 0), (1, 15), (3, 15), (65535, 1), (65535, 15), (2, 15)):
            number = x * 2 ** k % 65536
            self.check_number(LP32, [("x", "uint", 0, 65535)], ("shl", X, k), {"x": x}, [number], ("value", number))

    def test_shift_counts(self):
        for model in MODELS:
            for kind in KINDS:
                # The type of the node is the promoted one, which may have more bits.
                bits = max(width(model, kind), width(model, "int"))
                for word in ("shl", "shr"):
                    self.check_number(model, [("x", kind, 0, 0)], (word, X, bits - 1), {"x": 0}, [0], ("value", 0))
                    for k in (bits, bits + 1, 200):
                        self.check_number(model, [("x", kind, 0, 1)], (word, X, k), {"x": 1}, [None],
                                          ("fault", "shift", ()))

    def test_shl_of_a_negative_value(self):
        for k in (0, 1, 15, 16, 200):
            self.check_number(LP32, [("x", "int", -9, 9)], ("shl", X, k), {"x": -1}, [None], ("fault", "shift", ()))
            self.check_number(LP32, [("x", "char", -9, 9)], ("shl", X, k), {"x": -9}, [None], ("fault", "shift", ()))

    def test_shift_ahead_of_overflow(self):
        self.check_number(LP32, [("x", "int", 0, 9)], ("shl", X, 16), {"x": 9}, [None], ("fault", "shift", ()))

    def test_casts(self):
        for model in MODELS:
            for kind in KINDS:
                low, high = limits(model, kind)
                for x in (0, 1, -1, low, high, low - 1, high + 1, 2 * high + 2, -high - 2, 3 * low - 5, 3 * high + 5):
                    least, greatest = limits(model, "wide")
                    if least <= x <= greatest:
                        number = low + (x - low) % (high - low + 1)
                        self.assertEqual(number, converted(model, kind, x))
                        self.check_number(model, [("x", "wide", x, x)], ("cast", kind, X), {"x": x}, [number],
                                          ("value", number))


class Conditions(Runs):
    def test_if(self):
        variables = [("x", "int", -5, 5), ("y", "uint", 0, 9)]
        values = {"x": -1, "y": 2}
        for condition, path, expected in ((TRUE, "first", 65535), (FALSE, "second", 2)):
            taken = true_at(0) if condition == TRUE else false_at(0)
            self.check(LP32, variables, ("if", condition, X, Y), values, taken + [((), path, expected)],
                       ("value", expected))

    def test_only_the_part_that_runs(self):
        variables = [("x", "int", -5, 5), ("y", "int", 0, 9)]
        bad = ("shl", X, 99)
        self.check(LP32, variables, ("if", TRUE, ("neg", Y), bad), {"x": 1, "y": 2},
                   true_at(0) + [((1,), "result", -2), ((), "first", -2)], ("value", -2))
        self.check(LP32, variables, ("if", FALSE, bad, ("neg", Y)), {"x": 1, "y": 2},
                   false_at(0) + [((2,), "result", -2), ((), "second", -2)], ("value", -2))
        self.check(LP32, variables, ("if", TRUE, bad, Y), {"x": 1, "y": 2},
                   true_at(0) + [((1,), "result", None)], ("fault", "shift", (1,)))

    def test_not(self):
        self.check(LP32, [], ("not", TRUE), {}, true_at(0), ("value", False))
        self.check(LP32, [], ("not", ("not", TRUE)), {}, true_at(0, 0), ("value", True))
        self.check(LP32, [], ("not", FALSE), {}, false_at(0), ("value", True))

    def test_and(self):
        for second, truth in ((TRUE, True), (FALSE, False)):
            rest = true_at(1) if truth else false_at(1)
            self.check(LP32, [], ("and", TRUE, second), {}, true_at(0) + rest, ("value", truth))
            self.check(LP32, [], ("and", FALSE, second), {}, false_at(0), ("value", False))

    def test_or(self):
        for second, truth in ((TRUE, True), (FALSE, False)):
            rest = true_at(1) if truth else false_at(1)
            self.check(LP32, [], ("or", FALSE, second), {}, false_at(0) + rest, ("value", truth))
            self.check(LP32, [], ("or", TRUE, second), {}, true_at(0), ("value", True))

    def test_faults_of_second_parts_that_do_not_run(self):
        bad = ("less", ("shr", ("lit", 1, ""), 77), ("lit", 0, ""))
        self.check(LP32, [], ("or", TRUE, bad), {}, true_at(0), ("value", True))
        self.check(LP32, [], ("and", FALSE, bad), {}, false_at(0), ("value", False))
        self.check(LP32, [], ("and", TRUE, bad), {}, true_at(0) + [((1, 0), "result", None)],
                   ("fault", "shift", (1, 0)))
        self.check(LP32, [], ("not", bad), {}, [((0, 0), "result", None)], ("fault", "shift", (0, 0)))
        self.check(LP32, [], ("if", bad, ("lit", 1, ""), ("lit", 2, "")), {}, [((0, 0), "result", None)],
                   ("fault", "shift", (0, 0)))

    def test_a_wrong_conversion_decides(self):
        variables = [("x", "int", -1, 1), ("y", "uint", 0, 9)]
        self.check(LP32, variables, ("if", ("less", X, Y), ("lit", 1, ""), ("lit", 2, "l")), {"x": -1, "y": 5},
                   [((0,), "first", 65535), ((0,), "second", 5), ((), "second", 2)], ("value", 2))


class Faults(Runs):
    def test_deep_within(self):
        variables = [("x", "int", 0, 32767), ("y", "int", 0, 9), ("z", "long", 0, 9)]
        tree = ("sub", ("cast", "short", Y), ("neg", ("mul", ("add", X, ("lit", 1, "")), ("neg", Z))))
        self.check(LP32, variables, tree, {"x": 32767, "y": 7, "z": 1}, [
            ((0,), "result", 7), ((1, 0, 0), "first", 32767), ((1, 0, 0), "second", 1), ((1, 0, 0), "result", None)],
            ("fault", "overflow", (1, 0, 0)))

    def test_nothing_behind_a_fault_in_the_first_part(self):
        for word in ("add", "sub", "mul", "less", "most"):
            self.check(LP32, [], (word, ("neg", ("shl", ("lit", 1, ""), 16)), ("neg", ("lit", 1, ""))), {},
                       [((0, 0), "result", None)], ("fault", "shift", (0, 0)))
            self.check(LP32, [], (word, ("neg", ("lit", 1, "")), ("shr", ("lit", 1, ""), 16)), {},
                       [((0,), "result", -1), ((1,), "result", None)], ("fault", "shift", (1,)))

    def test_a_fault_that_the_mathematical_value_does_not_show(self):
        tree = ("sub", ("add", X, ("lit", 1, "")), ("lit", 1, ""))
        self.check(LP32, [("x", "int", 0, 32767)], tree, {"x": 32767},
                   [((0,), "first", 32767), ((0,), "second", 1), ((0,), "result", None)],
                   ("fault", "overflow", (0,)))


class AgainstThePromise(Runs):
    def test_random_trees(self):
        rng = random.Random(8)
        models = all_models((2, 2, 2, 2, 2), 6) + MODELS
        faults = 0
        for _ in range(500):
            variables = random_variables(rng, rng.randrange(4), reach=3)
            tree = random_tree(rng, [row[0] for row in variables], rng.randrange(1, 12), rng.choice("EEEC"))
            for model in rng.sample(models, 4):
                if is_admitted(model, variables, tree):
                    for values in all_values(variables):
                        wanted = RunByPromise(model, variables, tree, values)
                        self.check(model, variables, tree, values, wanted.taken, wanted.answer)
                        faults += wanted.answer[0] == "fault"
        self.assertGreater(faults, 100)


class Walks(unittest.TestCase):
    TREE = ("add", ("neg", X), ("neg", Y))
    VARIABLES = [("x", "int", -5, 5), ("y", "int", -5, 5)]
    TAKEN = [((0,), "result", -1), ((1,), "result", -2), ((), "first", -1), ((), "second", -2), ((), "result", -3)]

    def walk(self, x=1, y=2):
        return steps(LP32, self.VARIABLES, self.TREE, {"x": x, "y": y})

    def test_generator(self):
        self.assertTrue(inspect.isgenerator(self.walk()))

    def test_stops_early(self):
        walk = self.walk()
        self.assertEqual([next(walk), next(walk)], self.TAKEN[:2])
        walk.close()
        self.assertEqual(list(walk), [])
        self.assertEqual(list(self.walk()), self.TAKEN)

    def test_two_walks_in_turn(self):
        first, second = self.walk(), self.walk(3, 4)
        pairs = list(zip(first, second))
        self.assertEqual([pair[0] for pair in pairs], self.TAKEN)
        self.assertEqual([pair[1][2] for pair in pairs], [-3, -4, -3, -4, -7])
        one, other = self.walk(), self.walk()
        self.assertEqual(next(one), self.TAKEN[0])
        self.assertEqual(list(other), self.TAKEN)
        self.assertEqual(list(one), self.TAKEN[1:])

    def test_changed_values(self):
        values = {"x": 1, "y": 2}
        walk = steps(LP32, self.VARIABLES, self.TREE, values)
        found = [next(walk)]
        values["y"] = 5
        self.assertEqual(found + list(walk), self.TAKEN)


def walked(*arguments):
    return list(steps(*arguments))


def exact(model, *arguments):
    return mathematical(*arguments)


class ValuesCheck(unittest.TestCase):
    VARIABLES = [("x", "int", -5, 5), ("y", "uint", 3, 9), ("z", "int", 0, 0)]

    def check(self, values, wanted, expression=("add", X, Y)):
        for function in (run, walked, exact):
            with self.subTest(function=function.__name__, values=values):
                self.assertEqual(raised(function, LP32, self.VARIABLES, expression, values), wanted)

    def test_ends(self):
        for x, y in ((-5, 3), (5, 9), (0, 5)):
            self.check({"x": x, "y": y, "z": 0}, None)

    def test_below_and_above(self):
        for x in (-6, 6, -10 ** 40, 10 ** 40):
            self.check({"x": x, "y": 3, "z": 0}, (InvalidValues, "x"))
        for y in (2, 10, -3):
            self.check({"x": 0, "y": y, "z": 0}, (InvalidValues, "y"))

    def test_missing(self):
        self.check({}, (InvalidValues, "x"))
        self.check({"x": 0, "z": 0}, (InvalidValues, "y"))
        self.check({"y": 3, "z": 0}, (InvalidValues, "x"))

    def test_variables_that_do_not_occur(self):
        self.check({"x": 0, "y": 3}, (InvalidValues, "z"))
        self.check({"x": 0, "y": 3, "z": 1}, (InvalidValues, "z"))
        self.check({"x": 0, "y": 3, "z": 1}, (InvalidValues, "z"), ("lit", 1, ""))

    def test_first_of_two(self):
        self.check({"x": 0, "z": 7, "y": 0}, (InvalidValues, "y"))
        self.check({"z": 7, "y": 3, "x": 9}, (InvalidValues, "x"))
        self.check({"z": 0, "y": 2}, (InvalidValues, "x"))

    def test_order_of_the_keys(self):
        self.check({"z": 0, "y": 3, "x": 5}, None)
        self.assertEqual(run(LP32, self.VARIABLES, ("sub", Y, X), {"z": 0, "y": 9, "x": 5}), ("value", 4))
        self.assertEqual(mathematical(self.VARIABLES, ("sub", Y, X), {"z": 0, "y": 9, "x": 5}), 4)

    def test_names_that_are_no_variables(self):
        self.check({"x": 0, "y": 3, "z": 0, "w": 10 ** 40, "int": 1}, None)
        self.assertEqual(run(LP32, [], ("lit", 1, ""), {"x": 0}), ("value", 1))


class Errors(unittest.TestCase):
    """Each check, and the order of the checks: what is wrong in one is wrong in all later ones as well."""

    MODEL, VARIABLES, TREE, VALUES = ((8, 16, 15, 32, 64), "s"), [("x", "int", 1, 0)], ("var", "y"), {}

    def check(self, wanted, **named):
        arguments = {"model": self.MODEL, "variables": self.VARIABLES, "expression": self.TREE, "values": self.VALUES}
        arguments.update(named)
        for function in (run, walked, lambda *rest: next(steps(*rest))):
            with self.subTest(wanted=wanted):
                self.assertEqual(raised(function, *arguments.values()), wanted)

    def test_order(self):
        self.check((InvalidModel, 2))
        self.check((InvalidModel, None), model=((8, 16, 16, 32, 64), "S"))
        self.check((InvalidVariables, 0), model=LP32)
        unheld = [("x", "uint", -1, 0)]
        self.check((InvalidExpression, ()), model=LP32, variables=unheld)
        self.check((InvalidValues, "x"), model=LP32, variables=unheld, expression=X)
        self.check((NotAdmitted, ("variable", "x")), model=LP32, variables=unheld, expression=X, values={"x": 0})
        self.check((NotAdmitted, ("literal", ())), model=LP32, variables=[], expression=("lit", 2 ** 64, "u"))

    def test_generator_raises_by_the_first_tuple(self):
        for case in ((self.MODEL, [], X, {}), (LP32, [("x", "int", 0, 1)], X, {"x": 2})):
            self.assertIsNotNone(raised(lambda case=case: next(steps(*case), None)))

    def test_mathematical(self):
        self.assertEqual(raised(mathematical, self.VARIABLES, self.TREE, {}), (InvalidVariables, 0))
        self.assertEqual(raised(mathematical, [("x", "uint", -1, 0)], self.TREE, {}), (InvalidExpression, ()))
        self.assertEqual(raised(mathematical, [("x", "uint", -1, 0)], X, {}), (InvalidValues, "x"))
        self.assertEqual(mathematical([("x", "uint", -1, 0)], X, {"x": -1}), -1)


class Examples(unittest.TestCase):
    def test_example_of_the_document(self):
        model = ((8, 16, 16, 32, 64), 's')
        variables = [('x', 'ushort', 0, 60000), ('y', 'ushort', 0, 60000)]
        minus = ('sub', ('var', 'x'), ('var', 'y'))
        self.assertEqual(
            [run(model, variables, minus, {'x': 1, 'y': 2}), mathematical(variables, minus, {'x': 1, 'y': 2}),
             list(steps(model, variables, minus, {'x': 1, 'y': 2})),
             run(model, variables, ('shl', ('var', 'x'), 16), {'x': 1, 'y': 2}),
             run(model, [], ('neg', ('lit', 5, 'u')), {})],
            [('value', 65535), -1, [((), 'first', 1), ((), 'second', 2), ((), 'result', 65535)],
             ('fault', 'shift', ()), ('value', 65531)])


if __name__ == "__main__":
    unittest.main()
