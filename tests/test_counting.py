"""Models counted and numbered; Most check."""

import random
import unittest
from math import comb

from castforms.clean import is_clean
from castforms.counting import count_models, nth_clean_model
from castforms.errors import InvalidExpression, InvalidNumber, InvalidVariables
from castforms.portable import least_clean_model
from support import SUFFIX_KINDS, all_models, is_admitted, raised, random_tree, random_variables

X, Y, Z = ("var", "x"), ("var", "y"), ("var", "z")
ONE = ("lit", 1, "")
LEAST = (2, 2, 2, 2, 2)
# All models with widths from 2 to 128: five widths in order, chosen out of 127, with repetitions.
ALL = 2 * comb(127 + 4, 5)


class Counting(unittest.TestCase):
    def check(self, variables, expression, most, every=1):
        """Against all models up to a width, and by the number of each `every`th one."""
        admitted = [model for model in all_models(LEAST, most) if is_admitted(model, variables, expression)]
        clean = [model for model in admitted if is_clean(model, variables, expression)]
        with self.subTest(variables=variables, expression=expression, most=most):
            self.assertEqual(count_models(variables, expression, most), (len(admitted), len(clean)))
            for number in sorted(set(range(0, len(clean), every)) | ({len(clean) - 1} if clean else set())):
                self.assertEqual(nth_clean_model(variables, expression, most, number), clean[number])
            for number in (-1, len(clean), len(clean) + 1, -10 ** 40, 10 ** 40):
                self.assertEqual(raised(nth_clean_model, variables, expression, most, number), (InvalidNumber, number))
        return (len(admitted), len(clean))


class Small(Counting):
    def test_every_number(self):
        variables = [("a", "short", 0, 3), ("b", "short", 0, 3)]
        plus = ("add", ("var", "a"), ("var", "b"))
        self.assertEqual([self.check(variables, plus, most) for most in (2, 3, 4)], [(0, 0), (4, 0), (22, 10)])
        self.check(variables, plus, 5)

    def test_every_word(self):
        trees = [X, ("neg", X), ("cast", "char", X), ("shl", X, 1), ("shr", X, 2), ("add", X, Y), ("sub", X, Y),
                 ("mul", X, Y), ("less", X, Y), ("most", X, Y), ("if", ("less", X, ONE), Y, Z), ("not", ("less", X, Y)),
                 ("and", ("less", X, ONE), ("most", Y, ("lit", 3, "u"))), ("or", ("less", X, ONE), ("most", Y, Z))]
        for kinds in (("char", "uint", "long"), ("int", "ushort", "uwide")):
            variables = [(name, kind, 0 if kind[0] == "u" else -1, 2) for name, kind in zip("xyz", kinds)]
            for tree in trees:
                self.check(variables, tree, 5, 17)

    def test_random_trees(self):
        rng = random.Random(121)
        for _ in range(60):
            variables = random_variables(rng, rng.randrange(3), reach=2)
            tree = random_tree(rng, [row[0] for row in variables], rng.randrange(1, 8), rng.choice("EEC"),
                               numbers=(0, 1, 2, 3, 7), counts=(0, 1, 2))
            self.check(variables, tree, rng.randrange(2, 7), 41)

    def test_literals(self):
        for suffix in SUFFIX_KINDS:
            for number in (0, 1, 3, 7, 8, 31):
                self.check([], ("sub", ("lit", number, suffix), ("lit", 2, "")), 5, 29)

    def test_char_of_either_sign(self):
        # From 2 on, with 3 in it: an unsigned `char` needs two bits, a signed one three.
        self.assertEqual(self.check([("x", "char", 0, 3)], X, 2), (1, 1))
        self.assertEqual(nth_clean_model([("x", "char", 0, 3)], X, 2, 0), (LEAST, "u"))
        self.assertEqual(self.check([("x", "char", 0, 3)], X, 3), (7, 7))
        self.assertEqual(self.check([("x", "char", -1, 0)], X, 3), (6, 6))
        self.check([("x", "char", -1, 1)], ("cast", "uchar", ("neg", X)), 4)
        self.check([("x", "int", -1, 1)], ("cast", "char", X), 4)

    def test_signs_in_order(self):
        found = [nth_clean_model([], ONE, 3, number) for number in range(12)]
        self.assertEqual(found, all_models(LEAST, 3))
        self.assertEqual(found[:2], [(LEAST, "s"), (LEAST, "u")])


class Large(Counting):
    def test_all_models(self):
        self.assertEqual(count_models([], ONE, 128), (ALL, ALL))
        self.assertEqual(count_models([("x", "char", 0, 1)], X, 128), (ALL, ALL))
        self.assertEqual(nth_clean_model([], ONE, 128, 0), (LEAST, "s"))
        self.assertEqual(nth_clean_model([], ONE, 128, 1), (LEAST, "u"))
        self.assertEqual(nth_clean_model([], ONE, 128, 2), ((2, 2, 2, 2, 3), "s"))
        self.assertEqual(nth_clean_model([], ONE, 128, 253), ((2, 2, 2, 2, 128), "u"))
        self.assertEqual(nth_clean_model([], ONE, 128, 254), ((2, 2, 2, 3, 3), "s"))
        self.assertEqual(nth_clean_model([], ONE, 128, ALL - 1), ((128,) * 5, "u"))
        self.assertEqual(nth_clean_model([], ONE, 128, ALL - 3), ((127, 128, 128, 128, 128), "u"))
        self.assertEqual(raised(nth_clean_model, [], ONE, 128, ALL), (InvalidNumber, ALL))

    def test_few_models(self):
        top = 2 ** 127 - 1
        self.assertEqual(count_models([("x", "schar", 0, top)], X, 128), (2, 2))
        self.assertEqual(count_models([("x", "schar", 0, top)], X, 127), (0, 0))
        # An unsigned `char` needs but 127 bits.
        self.assertEqual(count_models([("x", "char", 0, top)], X, 128), (7, 7))
        self.assertEqual(nth_clean_model([("x", "char", 0, top)], X, 128, 0), ((127,) * 5, "u"))
        self.assertEqual(nth_clean_model([("x", "char", 0, top)], X, 128, 5), ((128,) * 5, "s"))
        self.assertEqual(nth_clean_model([("x", "char", 0, top)], X, 128, 6), ((128,) * 5, "u"))
        self.assertEqual(count_models([("x", "schar", 0, top)], ("add", X, ONE), 128), (2, 0))

    def test_most_models(self):
        # All but those in which `wide` has 2 bits hold a 3, all but those with 2 or 3 bits are clean.
        three = ("lit", 3, "w")
        self.assertEqual(count_models([], three, 128), (ALL - 2, ALL - 2))
        self.assertEqual(count_models([], ("add", three, ("lit", 1, "w")), 128), (ALL - 2, ALL - 12))
        self.assertEqual(nth_clean_model([], ("add", three, ("lit", 1, "w")), 128, 0), ((2, 2, 2, 2, 4), "s"))
        self.assertEqual(nth_clean_model([], ("add", three, ("lit", 1, "w")), 128, ALL - 13), ((128,) * 5, "u"))

    def test_sum_of_short_types(self):
        # `int` needs 17 bits for a sum of values of 15 bits, or `short` has as many bits as `int`.
        variables = [("x", "short", 0, 2 ** 15 - 1), ("y", "short", 0, 2 ** 15 - 1)]
        admitted = 2 * sum((short - 1) * comb(128 - short + 3, 3) for short in range(16, 129))
        clean = admitted - 2 * 15 * comb(128 - 16 + 2, 2)
        self.assertEqual(count_models(variables, ("add", X, Y), 128), (admitted, clean))

    def test_no_model(self):
        for variables, tree in (([("x", "uint", -1, 0)], X), ([], ("lit", 10 ** 40, "")), ([], ("lit", 2 ** 127, ""))):
            for most in (2, 3, 64, 128):
                self.assertEqual(count_models(variables, tree, most), (0, 0))
                self.assertEqual(raised(nth_clean_model, variables, tree, most, 0), (InvalidNumber, 0))

    def test_numbers_there_and_back(self):
        rng = random.Random(122)
        for _ in range(10):
            variables = random_variables(rng, 2, reach=5)
            tree = random_tree(rng, ["a", "b"], rng.randrange(2, 8), "E")
            _, clean = count_models(variables, tree, 128)
            if clean:
                self.assertEqual(nth_clean_model(variables, tree, 128, 0), least_clean_model(variables, tree, LEAST))
            numbers = sorted(rng.randrange(clean) for _ in range(20)) if clean else []
            models = [nth_clean_model(variables, tree, 128, number) for number in numbers]
            self.assertEqual(models, sorted(models))
            self.assertEqual(len(set(models)), len(set(numbers)))
            for model in models:
                self.assertTrue(is_clean(model, variables, tree))


class Errors(unittest.TestCase):
    def test_most(self):
        for most in (1, 0, -1, 129, 10 ** 40, -10 ** 40):
            self.assertEqual(raised(count_models, [], ONE, most), (InvalidNumber, most))
            self.assertEqual(raised(nth_clean_model, [], ONE, most, 0), (InvalidNumber, most))
        for most in (2, 128):
            self.assertIsNone(raised(count_models, [], ONE, most))

    def test_order(self):
        twice = [("x", "int", 0, 1), ("x", "int", 0, 1)]
        for function, rest in ((count_models, ()), (nth_clean_model, (-5,))):
            self.assertEqual(raised(function, twice, ("neg", Y), 1, *rest), (InvalidVariables, 1))
            self.assertEqual(raised(function, twice[:1], ("neg", Y), 1, *rest), (InvalidExpression, (0,)))
            self.assertEqual(raised(function, twice[:1], ("neg", X), 1, *rest), (InvalidNumber, 1))
        self.assertEqual(raised(nth_clean_model, twice[:1], ("neg", X), 2, -5), (InvalidNumber, -5))


class Examples(unittest.TestCase):
    def test_example_of_the_document(self):
        variables = [('a', 'short', 0, 3), ('b', 'short', 0, 3)]
        plus = ('add', ('var', 'a'), ('var', 'b'))
        self.assertEqual(
            [count_models(variables, plus, 3), count_models(variables, plus, 4),
             nth_clean_model(variables, plus, 4, 0)],
            [(4, 0), (22, 10), ((2, 3, 4, 4, 4), 's')])


if __name__ == "__main__":
    unittest.main()
