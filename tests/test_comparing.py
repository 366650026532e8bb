"""Two expressions over all models."""

import random
import unittest

from castforms.clean import is_clean
from castforms.comparing import clean_wherever, parting_model
from castforms.errors import InvalidExpression, InvalidModel, InvalidVariables
from support import all_models, is_admitted, raised, random_tree, random_variables

X, Y, Z = ("var", "x"), ("var", "y"), ("var", "z")
ONE = ("lit", 1, "")
LEAST = (2, 2, 2, 2, 2)
DEFAULT = (8, 16, 16, 32, 64)


class Comparing(unittest.TestCase):
    def check(self, variables, first, second, minima, most):
        """Against all models up to a width; returns whether one of them parts the expressions."""
        wanted = None
        for model in all_models(minima, most):
            if is_admitted(model, variables, first) and is_admitted(model, variables, second):
                if is_clean(model, variables, second) and not is_clean(model, variables, first):
                    wanted = wanted or model
        with self.subTest(variables=variables, first=first, second=second, minima=minima):
            found = parting_model(variables, first, second, minima)
            self.assertIs(clean_wherever(variables, first, second, minima), found is None)
            if found is None or found[0][-1] <= most:
                self.assertEqual(found, wanted)
            else:
                self.assertTrue(wanted is None or found < wanted)
                self.assertTrue(is_clean(found, variables, second))
                self.assertFalse(is_clean(found, variables, first))
        return wanted is not None

    def written(self, variables, first, second, wanted, minima=DEFAULT):
        with self.subTest(variables=variables, first=first, second=second, minima=minima):
            self.assertEqual(parting_model(variables, first, second, minima), wanted)
            self.assertIs(clean_wherever(variables, first, second, minima), wanted is None)


class AgainstAllModels(Comparing):
    def test_pairs_of_small_expressions(self):
        variables = [("x", "char", 0, 2), ("y", "uint", 0, 1), ("z", "long", -1, 1)]
        trees = [X, ("add", X, Y), ("sub", X, Z), ("mul", Z, ("lit", 3, "")), ("neg", X), ("shl", X, 1),
                 ("cast", "uchar", Z), ("less", Z, Y), ("if", ("less", X, ONE), Y, Z), ("not", ("most", Y, X)),
                 ("and", ("less", X, ("lit", 3, "l")), ("most", Y, Z))]
        found = [self.check(variables, first, second, LEAST, 5) for first in trees for second in trees]
        self.assertGreater(found.count(True), 20)
        self.assertGreater(found.count(False), 20)

    def test_random_trees(self):
        rng = random.Random(131)
        found = []
        for _ in range(60):
            variables = random_variables(rng, rng.randrange(3), reach=2)
            first, second = [random_tree(rng, [row[0] for row in variables], rng.randrange(1, 7), rng.choice("EEC"),
                                         numbers=(0, 1, 2, 3), counts=(0, 1, 2)) for _ in "12"]
            found.append(self.check(variables, first, second, rng.choice([LEAST, (2, 2, 3, 3, 4)]), 7))
        self.assertIn(True, found)

    def test_literals_whose_types_part_the_models(self):
        for number in (1, 3, 7):
            for suffix in ("", "u", "l", "uw"):
                first = ("sub", ("lit", number, suffix), ("lit", 2, ""))
                second = ("add", ("lit", 3, ""), ("lit", number, "ul"))
                self.check([], first, second, LEAST, 6)
                self.check([], second, first, LEAST, 6)


class WrittenOut(Comparing):
    VARIABLES = [("x", "int", 0, 30000), ("y", "int", 0, 30000)]

    def test_the_same_expression_twice(self):
        for tree in (X, ("add", X, Y), ("shl", ("neg", X), 1), ("less", X, ("lit", 5, "u"))):
            for minima in (LEAST, DEFAULT):
                self.written(self.VARIABLES, tree, tree, None, minima)

    def test_clean_nowhere(self):
        nowhere = ("shl", ("neg", X), 1)
        self.written(self.VARIABLES, nowhere, ("sub", X, Y), (DEFAULT, "s"))
        self.written(self.VARIABLES, ("sub", X, Y), nowhere, None)
        self.written(self.VARIABLES, nowhere, ("add", X, Y), ((8, 16, 17, 32, 64), "s"))
        self.written(self.VARIABLES, nowhere, ("neg", nowhere), None)

    def test_models_that_admit_only_one(self):
        small, large = ("lit", 5, ""), ("lit", 2 ** 100, "")
        overflow = ("add", ("lit", 32767, ""), ONE)
        # The models that admit `large` have a `wide` of 102 bits or more.
        least = (8, 16, 16, 32, 102)
        self.written([], overflow, small, (DEFAULT, "s"))
        self.written([], overflow, large, (least, "s"))
        self.written([], ("if", ("less", ONE, small), overflow, large), small, (least, "s"))
        self.written([], overflow, ("lit", 2 ** 127, ""), None)
        self.written([], ("lit", 2 ** 127, ""), overflow, None)
        self.written([("x", "uint", -1, 5)], ("shl", X, 200), small, None)

    def test_types_of_literals_of_the_second_one(self):
        # Both have the literal: a `long` at first, an `int` from 17 bits on.
        literal = ("lit", 2 ** 16 - 1, "")
        variables = [("x", "int", 0, 1)]
        self.written(variables, ("add", X, literal), literal, ((8, 16, 17, 32, 64), "s"))
        self.written(variables, ("add", X, literal), ("add", literal, ONE), None)
        self.written(variables, ("add", X, literal), ("add", ("cast", "long", literal), ONE),
                     ((8, 16, 17, 32, 64), "s"))

    def test_either_direction(self):
        plus, minus = ("add", X, Y), ("sub", X, Y)
        self.written(self.VARIABLES, minus, plus, None)
        self.written(self.VARIABLES, plus, minus, (DEFAULT, "s"))
        self.written(self.VARIABLES, plus, minus, ((2, 2, 16, 16, 16), "s"), LEAST)
        self.written(self.VARIABLES, plus, minus, None, (8, 16, 17, 32, 64))
        self.written(self.VARIABLES, ("less", X, Y), plus, None)

    def test_sign_of_char(self):
        variables = [("x", "char", 0, 100), ("y", "schar", -1, 1)]
        self.written(variables, ("cast", "char", Y), X, (DEFAULT, "u"))
        self.written(variables, X, ("cast", "char", Y), None)

    def test_conditions(self):
        variables = [("x", "int", -5, 5), ("y", "uint", 0, 5), ("z", "long", 0, 5)]
        self.written(variables, ("less", X, Y), ("less", X, Z), (DEFAULT, "s"))
        self.written(variables, ("most", X, Z), ("not", ("less", X, Y)), None)


class Errors(unittest.TestCase):
    def check(self, wanted, *arguments):
        for function in (clean_wherever, parting_model):
            with self.subTest(function=function.__name__, arguments=arguments):
                self.assertEqual(raised(function, *arguments), wanted)

    def test_order(self):
        twice = [("x", "int", 0, 1), ("x", "int", 0, 1)]
        first, second = ("neg", Y), ("neg", ("neg", Y))
        self.check((InvalidVariables, 1), twice, first, second, ())
        self.check((InvalidExpression, (0,)), twice[:1], first, second, ())
        self.check((InvalidExpression, (0, 0)), twice[:1], X, second, ())
        self.check((InvalidModel, None), twice[:1], X, X, ())
        self.check((InvalidModel, 1), twice[:1], X, X, (8, 7, 16, 32, 64))
        self.check((InvalidExpression, (0, 0)), twice[:1], X, second)

    def test_both_may_have_the_same_variables(self):
        self.check(None, [("x", "int", 0, 1)], ("neg", X), ("shl", X, 1))


class Examples(unittest.TestCase):
    def test_example_of_the_document(self):
        variables = [('x', 'int', 0, 30000), ('y', 'int', 0, 30000)]
        plus, minus = ('add', ('var', 'x'), ('var', 'y')), ('sub', ('var', 'x'), ('var', 'y'))
        self.assertEqual([clean_wherever(variables, minus, plus), parting_model(variables, plus, minus)],
                         [True, ((8, 16, 16, 32, 64), 's')])


if __name__ == "__main__":
    unittest.main()
