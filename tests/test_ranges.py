"""Promise 9: mathematical values, their least and greatest ones, and the outcomes of conditions."""

import random
import unittest

from castforms.errors import InvalidExpression, InvalidVariables
from castforms.ranges import bounds, outcomes
from castforms.runs import mathematical
from support import CONDITIONS, all_values, exact_by_promise, raised, random_tree, random_variables

X, Y, Z = ("var", "x"), ("var", "y"), ("var", "z")
ENDS = [0, 1, -1, 5, -5, 2 ** 64, -2 ** 64, 10 ** 40, -10 ** 40]


class Mathematical(unittest.TestCase):
    def check(self, expression, values, wanted):
        # The types are chosen such that no model admits the variables: they do not matter.
        variables = [(name, "uchar", values[name], values[name]) for name in values]
        with self.subTest(expression=expression, values=values):
            self.assertEqual(mathematical(variables, expression, values), wanted)
            self.assertIs(type(mathematical(variables, expression, values)), type(wanted))

    def test_pairs(self):
        for x in ENDS:
            for y in ENDS:
                values = {"x": x, "y": y}
                self.check(("add", X, Y), values, x + y)
                self.check(("sub", X, Y), values, x - y)
                self.check(("mul", X, Y), values, x * y)
                self.check(("less", X, Y), values, x < y)
                self.check(("most", X, Y), values, x <= y)

    def test_one_part(self):
        for x in ENDS:
            self.check(X, {"x": x}, x)
            self.check(("neg", X), {"x": x}, -x)
            for kind in ("char", "uchar", "int", "uwide"):
                self.check(("cast", kind, X), {"x": x}, x)
            for k in (0, 1, 7, 128, 200):
                self.check(("shl", X, k), {"x": x}, x * 2 ** k)
                self.check(("shr", X, k), {"x": x}, x // 2 ** k)

    def test_shr_of_negative_numbers(self):
        for x, k, wanted in ((-1, 0, -1), (-1, 1, -1), (-1, 200, -1), (-7, 1, -4), (-8, 1, -4), (-9, 2, -3)):
            self.check(("shr", X, k), {"x": x}, wanted)

    def test_literals(self):
        for number in (0, 1, 2 ** 64, 10 ** 40):
            for suffix in ("", "u", "l", "ul", "w", "uw"):
                self.check(("lit", number, suffix), {}, number)

    def test_conditions(self):
        less = ("less", X, ("lit", 1, ""))
        more = ("less", ("lit", 5, ""), Y)
        for x in (0, 1):
            for y in (5, 6):
                values, one, other = {"x": x, "y": y}, x < 1, y > 5
                self.check(("not", less), values, not one)
                self.check(("and", less, more), values, one and other)
                self.check(("or", less, more), values, one or other)
                self.check(("if", less, Y, ("neg", ("lit", 3, "u"))), values, y if one else -3)

    def test_deep(self):
        chosen = ("if", ("less", Y, ("lit", 0, "u")), ("lit", 1, ""), ("lit", 2, ""))
        tree = ("sub", ("cast", "uint", ("neg", X)), chosen)
        self.check(tree, {"x": 7, "y": -1}, -8)
        self.check(tree, {"x": 7, "y": 0}, -9)

    def test_random_trees(self):
        rng = random.Random(91)
        for _ in range(300):
            variables = random_variables(rng, rng.randrange(4))
            tree = random_tree(rng, [row[0] for row in variables], rng.randrange(1, 16), rng.choice("EC"))
            for values in all_values(variables)[:20]:
                self.assertEqual(mathematical(variables, tree, values), exact_by_promise(tree, values))


class Bounds(unittest.TestCase):
    def check(self, variables, expression):
        """Against all values of the variables."""
        found = [exact_by_promise(expression, values) for values in all_values(variables)]
        with self.subTest(variables=variables, expression=expression):
            if expression[0] in CONDITIONS:
                answer, wanted = outcomes(variables, expression), (True in found, False in found)
            else:
                answer, wanted = bounds(variables, expression), (min(found), max(found))
            self.assertEqual(answer, wanted)
            self.assertEqual([type(end) for end in answer], [type(end) for end in wanted])
            self.assertIs(type(answer), tuple)

    def test_products(self):
        ranges = [(-3, 4), (-4, 3), (2, 5), (-5, -2), (0, 3), (-3, 0), (0, 0), (1, 1), (-1, -1)]
        for first in ranges:
            for second in ranges:
                self.check([("x", "int") + first, ("y", "int") + second], ("mul", X, Y))

    def test_every_word_at_small_ranges(self):
        ranges = [(-3, 2), (0, 4), (-4, -2), (3, 3), (-1, -1), (0, 0), (2, 6)]
        for first in ranges:
            variables = [("x", "int") + first]
            for tree in (X, ("neg", X), ("cast", "uchar", X), ("shl", X, 0), ("shl", X, 3), ("shr", X, 0),
                         ("shr", X, 1), ("shr", X, 2), ("shr", X, 200), ("add", X, ("lit", 2, "u")),
                         ("sub", ("lit", 2, ""), X)):
                self.check(variables, tree)
            for second in ranges:
                variables = [("x", "int") + first, ("y", "uint") + second]
                for word in ("add", "sub", "mul", "less", "most"):
                    self.check(variables, (word, X, Y))

    def test_conditions_with_one_outcome(self):
        always, never = ("less", ("lit", 0, ""), ("lit", 1, "")), ("less", ("lit", 1, ""), ("lit", 1, ""))
        variables = [("x", "int", -9, -5), ("y", "int", 5, 9)]
        for condition in (always, never, ("not", always), ("and", always, never), ("or", never, always),
                          ("and", always, always), ("or", never, never)):
            self.check(variables, condition)
            self.check(variables, ("if", condition, X, Y))
        self.assertEqual(bounds(variables, ("if", always, X, Y)), (-9, -5))
        self.assertEqual(bounds(variables, ("if", never, X, Y)), (5, 9))

    def test_conditions_of_conditions(self):
        conditions = [("less", X, ("lit", 2, "")), ("less", X, ("lit", 0, "")), ("most", ("lit", 0, ""), X)]
        others = [("most", Y, ("lit", 3, "")), ("less", Y, ("lit", 3, "")), ("less", Y, ("lit", 9, ""))]
        variables = [("x", "int", 0, 4), ("y", "int", 3, 7), ("z", "int", -20, -10)]
        for one in conditions:
            for other in others:
                for tree in (("and", one, other), ("or", one, other), ("not", ("or", one, other)),
                             ("and", ("not", one), other), ("or", ("not", one), ("not", other))):
                    self.check(variables, tree)
                    self.check(variables, ("if", tree, Z, ("lit", 1, "")))
                    self.check(variables, ("less", ("if", tree, Z, ("lit", 1, "")), ("lit", 0, "")))

    def test_one_value_only(self):
        variables = [("x", "int", 7, 7), ("y", "int", -3, -3)]
        self.assertEqual(bounds(variables, ("mul", X, Y)), (-21, -21))
        self.assertEqual(outcomes(variables, ("less", X, Y)), (False, True))
        self.assertEqual(outcomes(variables, ("less", Y, X)), (True, False))
        self.assertEqual(outcomes(variables, ("most", X, ("lit", 7, ""))), (True, False))
        self.assertEqual(outcomes(variables, ("less", X, ("lit", 7, ""))), (False, True))

    def test_ends_that_touch(self):
        variables = [("x", "int", 0, 5), ("y", "int", 5, 9)]
        self.assertEqual(outcomes(variables, ("less", X, Y)), (True, True))
        self.assertEqual(outcomes(variables, ("most", X, Y)), (True, False))
        self.assertEqual(outcomes(variables, ("less", Y, X)), (False, True))
        self.assertEqual(outcomes(variables, ("most", Y, X)), (True, True))

    def test_random_trees(self):
        rng = random.Random(92)
        for _ in range(600):
            variables = random_variables(rng, rng.randrange(5))
            tree = random_tree(rng, [row[0] for row in variables], rng.randrange(1, 16), rng.choice("EC"))
            self.check(variables, tree)

    def test_far_ends(self):
        far = 10 ** 40
        variables = [("x", "char", -far, far), ("y", "char", -far, 3)]
        self.assertEqual(bounds(variables, ("mul", X, Y)), (-far * far, far * far))
        self.assertEqual(bounds(variables, ("sub", X, Y)), (-far - 3, 2 * far))
        self.assertEqual(bounds(variables, ("shl", X, 200)), (-far * 2 ** 200, far * 2 ** 200))
        self.assertEqual(bounds(variables, ("shr", X, 100)), (-far // 2 ** 100, far // 2 ** 100))


class Errors(unittest.TestCase):
    def test_order(self):
        for function, whole in ((bounds, X), (outcomes, ("less", X, Y))):
            self.assertEqual(raised(function, [("x", "int", 1, 0)], ("neg", X, X)), (InvalidVariables, 0))
            self.assertEqual(raised(function, [("x", "int", 0, 1), ("y", "in", 0, 1)], whole), (InvalidVariables, 1))
            self.assertEqual(raised(function, [("x", "int", 0, 1)], ("neg", X, X)), (InvalidExpression, ()))
        self.assertEqual(raised(bounds, [("x", "int", 0, 1)], ("add", X, Y)), (InvalidExpression, (1,)))
        self.assertEqual(raised(outcomes, [("x", "int", 0, 1)], ("less", X, Y)), (InvalidExpression, (1,)))
        self.assertEqual(raised(outcomes, [("x", "int", 0, 1)], ("not", X)), (InvalidExpression, (0,)))

    def test_no_model_is_needed(self):
        variables = [("x", "uchar", -10 ** 40, 10 ** 40)]
        self.assertEqual(bounds(variables, ("neg", X)), (-10 ** 40, 10 ** 40))
        self.assertEqual(bounds([], ("lit", 10 ** 40, "")), (10 ** 40, 10 ** 40))
        self.assertEqual(outcomes(variables, ("less", X, ("lit", 10 ** 40, ""))), (True, True))


class Examples(unittest.TestCase):
    def test_example_of_the_document(self):
        variables = [('x', 'int', -5, 5), ('y', 'int', 3, 9), ('z', 'int', 0, 1)]
        self.assertEqual(
            [bounds(variables, ('mul', ('var', 'x'), ('var', 'y'))),
             outcomes(variables, ('less', ('var', 'z'), ('var', 'y'))),
             bounds(variables, ('if', ('less', ('var', 'z'), ('var', 'y')), ('shr', ('var', 'x'), 1),
                                ('lit', 99, '')))],
            [(-45, 45), (True, False), (-3, 2)])


if __name__ == "__main__":
    unittest.main()
