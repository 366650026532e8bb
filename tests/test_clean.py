"""Promises 9 and 10: clean expressions, the first unclean step, and what an expression that is clean promises."""

import random
import unittest

from castforms.clean import first_unclean, is_clean
from castforms.errors import InvalidExpression, InvalidModel, InvalidVariables, NotAdmitted
from castforms.models import limits
from castforms.ranges import bounds
from castforms.runs import mathematical, run
from support import LP32, RunByPromise, all_models, all_values, is_admitted, is_step_clean, node_at, raised
from support import random_tree, random_variables, unclean_steps

X, Y, Z = ("var", "x"), ("var", "y"), ("var", "z")
ONE, TWO = ("lit", 1, ""), ("lit", 2, "")
TRUE, FALSE = ("less", ONE, TWO), ("less", TWO, ONE)
SMALL = all_models((2, 2, 2, 2, 2), 5)


class Clean(unittest.TestCase):
    def check(self, model, variables, expression):
        """Against the steps of all runs; returns the first unclean step as (path, word), None if there is none."""
        unclean = unclean_steps(model, variables, expression)
        with self.subTest(model=model, variables=variables, expression=expression):
            found = first_unclean(model, variables, expression)
            self.assertIs(is_clean(model, variables, expression), not unclean)
            if not unclean:
                self.assertIsNone(found)
                return None
            self.assertIs(type(found), tuple)
            self.assertEqual(found[:2], unclean[0])
            self.check_values(model, variables, expression, found)
            return found[:2]

    def check_values(self, model, variables, expression, found):
        path, word, values = found
        self.assertEqual(sorted(values), sorted(row[0] for row in variables))
        for name, _, low, high in variables:
            self.assertTrue(low <= values[name] <= high)
        taken = [step for step in RunByPromise(model, variables, expression, values).taken if step[:2] == (path, word)]
        self.assertEqual(len(taken), 1)
        self.assertFalse(is_step_clean(expression, values, taken[0]))


class EveryWord(Clean):
    def test_each_step_in_small_models(self):
        trees = [("add", X, Y), ("sub", X, Y), ("mul", X, Y), ("less", X, Y), ("most", X, Y),
                 ("if", ("less", X, ONE), Y, Z), ("neg", X), ("shl", X, 0), ("shl", X, 2), ("shr", X, 1),
                 ("shr", X, 3), ("cast", "uchar", X),
                 ("cast", "short", X), ("not", ("less", X, Y)), ("and", ("less", X, ONE), ("most", Y, ONE)),
                 ("or", ("less", X, ONE), ("most", Y, ONE))]
        found = set()
        for kinds in (("int", "uint", "long"), ("char", "ushort", "wide"), ("uwide", "schar", "ulong"),
                      ("uchar", "int", "uint")):
            for ends in ((-2, 1), (0, 3), (-1, 0)):
                # No model admits a variable of an unsigned type that may be negative.
                variables = [(name, kind) + ((0, 3) if kind[0] == "u" else ends) for name, kind in zip("xyz", kinds)]
                for model in SMALL[::7]:
                    for tree in trees:
                        if is_admitted(model, variables, tree):
                            step = self.check(model, variables, tree)
                            found.add((node_at(tree, step[0])[0], step[1]) if step else None)
        wanted = {None}
        for word in ("add", "sub", "mul", "less", "most", "if"):
            wanted |= {(word, "first"), (word, "second")}
        for word in ("add", "sub", "mul", "neg", "shl", "shr", "cast"):
            wanted |= {(word, "result")}
        self.assertEqual(found, wanted)

    def test_random_trees(self):
        rng = random.Random(93)
        models = all_models((2, 2, 2, 2, 2), 7)
        clean, unclean = 0, 0
        for _ in range(500):
            variables = random_variables(rng, rng.randrange(4))
            tree = random_tree(rng, [row[0] for row in variables], rng.randrange(1, 13), rng.choice("EEEC"))
            for model in rng.sample(models, 6):
                if is_admitted(model, variables, tree):
                    found = self.check(model, variables, tree)
                    clean += found is None
                    unclean += found is not None
        self.assertGreater(clean, 100)
        self.assertGreater(unclean, 100)


class WrittenOut(Clean):
    def check_all(self, variables, expression, wanted, model=LP32):
        """Checks without trying all values, of which there may be many."""
        found = first_unclean(model, variables, expression)
        self.assertIs(is_clean(model, variables, expression), wanted is None)
        self.assertEqual(None if found is None else found[:2], wanted)
        if found is not None:
            self.check_values(model, variables, expression, found)

    def test_ends_of_results(self):
        for high, wanted in ((32766, None), (32767, ((), "result"))):
            self.check_all([("x", "int", 0, high)], ("add", X, ONE), wanted)
        for low, wanted in ((-32767, None), (-32768, ((), "result"))):
            self.check_all([("x", "int", low, 5)], ("sub", X, ONE), wanted)
            self.check_all([("x", "int", low, 5)], ("neg", X), wanted)
        for high, wanted in ((181, None), (182, ((), "result"))):
            self.check_all([("x", "int", 0, high), ("y", "int", 0, high)], ("mul", X, Y), wanted)
        for high, wanted in ((255, None), (256, ((), "result"))):
            self.check_all([("x", "uint", 0, high), ("y", "uint", 0, 257)], ("mul", X, Y), wanted)

    def test_shifts(self):
        for high, wanted in ((16383, None), (16384, ((), "result"))):
            self.check_all([("x", "int", 0, high)], ("shl", X, 1), wanted)
            self.check_all([("x", "uint", 0, 2 * high + 1)], ("shl", X, 1), wanted)
        for word in ("shl", "shr"):
            self.check_all([("x", "int", 0, 0)], (word, X, 15), None)
            self.check_all([("x", "int", 0, 0)], (word, X, 16), ((), "result"))
            self.check_all([("x", "uint", 0, 0)], (word, X, 200), ((), "result"))
        self.check_all([("x", "int", 0, 5)], ("shl", X, 0), None)
        self.check_all([("x", "int", -1, 5)], ("shl", X, 0), ((), "result"))
        self.check_all([("x", "int", -1, 5)], ("shr", X, 0), None)

    def test_conversions(self):
        for low, wanted in ((0, None), (-1, ((), "first"))):
            for word in ("add", "mul", "less", "most"):
                self.check_all([("x", "int", low, 9), ("y", "uint", 1, 2)], (word, X, Y), wanted)
        for low, wanted in ((0, None), (-1, ((), "second"))):
            for word in ("add", "mul", "less", "most"):
                self.check_all([("x", "int", low, 9), ("y", "uint", 1, 2)], (word, Y, X), wanted)

    def test_a_cast_that_changes_a_value(self):
        for high, wanted in ((127, None), (128, ((), "result"))):
            self.check_all([("x", "int", -128, high)], ("cast", "schar", X), wanted)
        for low, wanted in ((0, None), (-1, ((), "result"))):
            self.check_all([("x", "int", low, 255)], ("cast", "uchar", X), wanted)

    def test_first_among_several(self):
        variables = [("x", "int", -5, 32767), ("y", "uint", 0, 65535), ("z", "int", -9, 9)]
        self.check_all(variables, ("add", X, Y), ((), "first"))
        self.check_all(variables, ("add", Y, X), ((), "second"))
        self.check_all(variables, ("add", ("neg", Y), ("shl", X, 1)), ((0,), "result"))
        self.check_all(variables, ("add", ("neg", Z), ("shl", X, 1)), ((1,), "result"))
        self.check_all(variables, ("mul", X, Z), ((), "result"))
        self.check_all(variables, ("cast", "uint", ("sub", ("shl", Z, 0), Y)), ((0, 0), "result"))

    def test_order_within_an_if(self):
        variables = [("x", "int", -9, 9), ("y", "int", -9, 9), ("z", "uint", 0, 9)]
        bad_x, bad_y = ("shl", X, 0), ("shl", Y, 0)
        condition = ("less", Z, ONE)
        self.check_all(variables, ("if", ("less", bad_x, ONE), bad_y, Z), ((0, 0), "result"))
        self.check_all(variables, ("if", condition, bad_x, bad_y), ((1,), "result"))
        self.check_all(variables, ("if", condition, ("neg", X), bad_y), ((2,), "result"))
        other = [("x", "int", -9, 9), ("y", "int", -9, 9), ("z", "uint", 0, 9), ("w", "uint", 0, 9)]
        self.check_all(other, ("if", ("less", X, ONE), Y, Z), ((), "first"))
        self.check_all(other, ("if", ("less", X, ONE), Z, Y), ((), "second"))
        self.check_all(other, ("if", ("less", X, ONE), Y, ("neg", Z)), ((2,), "result"))
        self.check_all(other, ("if", ("less", X, ONE), Z, ("var", "w")), None)

    def test_parts_that_never_run(self):
        variables = [("x", "int", -9, 9), ("y", "uint", 0, 9), ("z", "int", 0, 5)]
        bad = ("shl", X, 99)
        self.check_all(variables, ("if", TRUE, Z, bad), None)
        self.check_all(variables, ("if", FALSE, bad, Z), None)
        self.check_all(variables, ("if", TRUE, bad, Z), ((1,), "result"))
        self.check_all(variables, ("if", ("less", Z, ("lit", 6, "")), TWO, bad), None)
        self.check_all(variables, ("if", ("less", Z, ("lit", 5, "")), TWO, bad), ((2,), "result"))
        wrong = ("less", bad, ONE)
        for tree, wanted in ((("and", FALSE, wrong), None), (("or", TRUE, wrong), None),
                             (("and", TRUE, wrong), ((1, 0), "result")), (("or", FALSE, wrong), ((1, 0), "result")),
                             (("and", ("not", TRUE), wrong), None), (("or", ("or", FALSE, TRUE), wrong), None)):
            self.check_all(variables, tree, wanted)
            # What the part that never runs can be does not matter either.
            self.check_all(variables, ("if", tree, Z, ("lit", 3, "")), wanted and ((0,) + wanted[0], wanted[1]))

    def test_conversions_of_parts_that_never_run(self):
        variables = [("x", "int", -9, 9), ("y", "uint", 0, 9)]
        self.check_all(variables, ("if", TRUE, Y, X), None)
        self.check_all(variables, ("if", FALSE, X, Y), None)
        self.check_all(variables, ("if", TRUE, X, Y), ((), "first"))
        self.check_all(variables, ("if", FALSE, Y, X), ((), "second"))

    def test_ways_to_steps_deep_within(self):
        names = "abcdefg"
        variables = [(name, "int", -30, 30) for name in names]
        a, b, c, d, e, f, g = [("var", name) for name in names]
        twenty = ("lit", 20, "")
        tree = ("if", ("and", ("less", twenty, a), ("not", ("or", ("most", b, twenty), ("less", c, twenty)))),
                ("add", ("if", ("less", twenty, ("neg", d)), ("mul", e, ("if", ("less", f, ("neg", twenty)),
                                                                         ("shl", g, 0), ONE)), ONE), ONE), ONE)
        self.check_all(variables, tree, ((1, 0, 1, 1, 1), "result"))

    def test_variables_that_do_not_occur(self):
        variables = [("v", "int", 3, 7), ("x", "int", 0, 32767), ("w", "long", -7, -7)]
        self.check_all(variables, ("add", X, ONE), ((), "result"))
        found = first_unclean(LP32, variables, ("add", X, ONE))
        self.assertEqual((found[2]["x"], found[2]["w"]), (32767, -7))

    def test_leaves(self):
        self.check_all([("x", "int", -32768, 32767)], X, None)
        self.check_all([], ("lit", 2 ** 63 - 1, ""), None)

    def test_type_that_decides_is_the_common_one(self):
        for kind, wanted in (("int", ((), "result")), ("long", None)):
            self.check_all([("x", "int", 0, 30000)], ("add", X, ("cast", kind, ("lit", 30000, ""))), wanted)

    def test_wide_models(self):
        half = 10 ** 38
        variables = [("x", "int", 0, half), ("y", "int", 0, half // 2)]
        model = ((2, 2, 128, 128, 128), "s")
        self.check_all(variables, ("add", X, Y), None, model)
        self.check_all(variables, ("mul", X, ("lit", 2, "")), ((), "result"), model)
        self.check_all([("x", "uint", 0, 2 ** 128 - 2)], ("add", X, ONE), None, model)
        self.check_all([("x", "uint", 0, 2 ** 128 - 1)], ("add", X, ONE), ((), "result"), model)
        self.check_all([("x", "uint", 0, 1)], ("shl", X, 127), None, model)
        self.check_all([("x", "uint", 0, 1)], ("shl", X, 128), ((), "result"), model)


class SameValues(unittest.TestCase):
    """Promise 10."""

    def test_two_models_in_which_it_is_clean(self):
        rng = random.Random(10)
        compared = 0
        for _ in range(150):
            variables = random_variables(rng, rng.randrange(1, 4), reach=2)
            tree = random_tree(rng, [row[0] for row in variables], rng.randrange(2, 9), rng.choice("EEEC"))
            models = [model for model in rng.sample(SMALL, 12) if is_admitted(model, variables, tree)]
            models = [model for model in models if is_clean(model, variables, tree)]
            for values in all_values(variables):
                answers = [run(model, variables, tree, values) for model in models]
                self.assertEqual(answers, [("value", mathematical(variables, tree, values))] * len(models))
            compared += len(models) > 1
        self.assertGreater(compared, 20)

    def test_written_out(self):
        variables = [("x", "ushort", 0, 60000), ("y", "long", -9, 9)]
        tree = ("add", X, Y)
        models = [LP32, ((8, 16, 32, 64, 64), "u"), ((17, 17, 17, 18, 18), "s")]
        for model in models:
            self.assertTrue(is_clean(model, variables, tree))
            self.assertEqual(run(model, variables, tree, {"x": 60000, "y": -9}), ("value", 59991))

    def test_only_types_and_bounds_matter(self):
        # The parts differ, their types, their least and greatest values are the same.
        variables = [("x", "int", 0, 9), ("y", "int", 0, 3), ("z", "int", 0, 3)]
        for other in (X, ("mul", Y, Z), ("sub", ("mul", Y, ("cast", "int", Z)), ("lit", 0, ""))):
            self.assertEqual(bounds(variables, other), (0, 9))
            for model, wanted in ((((2, 3, 5, 6, 7), "s"), False), (((2, 3, 6, 6, 7), "s"), True)):
                self.assertIs(is_clean(model, variables, ("add", other, ("lit", 7, ""))), wanted)

    def test_clean_values_are_held(self):
        variables = [("x", "int", -128, 127)]
        low, high = limits(LP32, "schar")
        self.assertEqual((low, high), (-128, 127))
        self.assertTrue(is_clean(LP32, variables, ("cast", "schar", X)))
        for x in range(low, high + 1):
            self.assertEqual(run(LP32, variables, ("cast", "schar", X), {"x": x}), ("value", x))


class Errors(unittest.TestCase):
    def check(self, model, variables, expression, wanted):
        for function in (is_clean, first_unclean):
            with self.subTest(function=function.__name__, wanted=wanted):
                self.assertEqual(raised(function, model, variables, expression), wanted)

    def test_order(self):
        wrong, twice, unheld = ((8, 7, 16, 32, 64), "s"), [("x", "int", 0, 1)] * 2, [("x", "uint", -1, 1)]
        self.check(wrong, twice, Y, (InvalidModel, 1))
        self.check(((8, 16, 16, 32, 64, 64), "s"), twice, Y, (InvalidModel, None))
        self.check(((8, 16, 16, 32, 64), ""), twice, Y, (InvalidModel, None))
        self.check(LP32, twice, Y, (InvalidVariables, 1))
        self.check(LP32, unheld, ("neg", Y), (InvalidExpression, (0,)))
        self.check(LP32, unheld, ("add", X, ("lit", 10 ** 40, "")), (NotAdmitted, ("variable", "x")))
        self.check(LP32, [("x", "uint", 0, 1)], ("add", X, ("lit", 10 ** 40, "")), (NotAdmitted, ("literal", (1,))))


class Examples(unittest.TestCase):
    def test_example_of_the_document(self):
        variables = [('x', 'ushort', 0, 60000), ('y', 'ushort', 0, 60000)]
        minus = ('sub', ('var', 'x'), ('var', 'y'))
        self.assertEqual(
            [is_clean(((8, 16, 32, 64, 64), 's'), variables, minus),
             first_unclean(((8, 16, 16, 32, 64), 's'), variables, minus)[:2],
             is_clean(((8, 16, 16, 32, 64), 's'), variables, ('sub', ('cast', 'long', ('var', 'x')), ('var', 'y')))],
            [True, ((), 'result'), True])


if __name__ == "__main__":
    unittest.main()
