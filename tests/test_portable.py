"""Promise 11: classes of models; what holds in every model; minima."""

import itertools
import random
import unittest

from castforms.clean import is_clean
from castforms.errors import InvalidExpression, InvalidModel, InvalidVariables
from castforms.models import limits
from castforms.portable import counter_model, is_portable, least_clean_model
from castforms.ranges import bounds
from support import KINDS, SUFFIX_KINDS, all_models, all_nodes, is_admitted, raised, random_tree, random_variables

X, Y, Z = ("var", "x"), ("var", "y"), ("var", "z")
ONE, TWO = ("lit", 1, ""), ("lit", 2, "")
TRUE = ("less", ONE, TWO)
LEAST = (2, 2, 2, 2, 2)
DEFAULT = (8, 16, 16, 32, 64)


class Portable(unittest.TestCase):
    def check(self, variables, expression, minima, most):
        """Against all models up to a width; returns whether some are unclean, and whether some are clean."""
        models = [model for model in all_models(minima, most) if is_admitted(model, variables, expression)]
        clean = [model for model in models if is_clean(model, variables, expression)]
        unclean = [model for model in models if not is_clean(model, variables, expression)]
        with self.subTest(variables=variables, expression=expression, minima=minima):
            counter = counter_model(variables, expression, minima)
            self.compare(counter, unclean, most)
            self.compare(least_clean_model(variables, expression, minima), clean, most)
            self.assertIs(is_portable(variables, expression, minima), counter is None)
            for model in (counter, least_clean_model(variables, expression, minima)):
                if model is not None:
                    self.assertIs(is_clean(model, variables, expression), model != counter)
        return (bool(unclean), bool(clean))

    def compare(self, found, wanted, most):
        """Compares a model with the first one of those up to a width; only one beyond that width may differ."""
        if found is None or found[0][-1] <= most:
            self.assertEqual(found, wanted[0] if wanted else None)
        elif wanted:
            self.assertLess(found, wanted[0])

    def written(self, variables, expression, counter, clean, minima=DEFAULT):
        with self.subTest(variables=variables, expression=expression, minima=minima):
            self.assertEqual(counter_model(variables, expression, minima), counter)
            self.assertEqual(least_clean_model(variables, expression, minima), clean)
            self.assertIs(is_portable(variables, expression, minima), counter is None)


class EveryWord(Portable):
    def test_small_expressions(self):
        trees = [X, ("neg", X), ("cast", "char", X), ("cast", "uint", X), ("shl", X, 1), ("shr", X, 2), ("add", X, Y),
                 ("sub", X, Y), ("mul", X, Y), ("less", X, Y), ("most", X, Y), ("if", ("less", X, ONE), Y, Z),
                 ("not", ("less", X, Y)), ("and", ("less", X, ONE), ("most", Y, ("lit", 3, "u"))),
                 ("or", ("less", X, ONE), ("most", Y, ("neg", Z)))]
        seen = set()
        for kinds in (("char", "uint", "long"), ("int", "ushort", "uwide"), ("short", "uchar", "schar")):
            variables = [(name, kind, 0 if kind[0] == "u" else -1, 2) for name, kind in zip("xyz", kinds)]
            for tree in trees:
                seen.add(self.check(variables, tree, LEAST, 6))
        self.assertEqual(sorted(seen), [(False, True), (True, False), (True, True)])

    def test_random_trees(self):
        rng = random.Random(111)
        for _ in range(60):
            variables = random_variables(rng, rng.randrange(3), reach=2)
            tree = random_tree(rng, [row[0] for row in variables], rng.randrange(1, 8), rng.choice("EEC"),
                               numbers=(0, 1, 2, 3), counts=(0, 1))
            self.check(variables, tree, LEAST, 8)

    def test_random_trees_with_large_numbers(self):
        """Against all models with widths at which something changes, which are few."""
        rng = random.Random(112)
        tried = 0
        while tried < 25:
            reach = 2 ** rng.choice([5, 20, 60, 110])
            variables = [(name, rng.choice(KINDS), rng.choice([0, -1, -reach // 3]), rng.randrange(reach))
                         for name in "ab"]
            tree = random_tree(rng, ["a", "b"], rng.randrange(2, 8), "E", (reach, reach // 2, 1), (0, 1, 7, 30))
            minima = rng.choice([LEAST, DEFAULT, (2, 3, 4, 5, 6)])
            widths = self.turning_widths(variables, tree, minima)
            if len(widths) > 13:
                continue
            tried += 1
            models = [(chosen, plain) for chosen in itertools.combinations_with_replacement(widths, 5)
                      if all(bits >= least for bits, least in zip(chosen, minima)) for plain in "su"]
            clean, counter = None, None
            for model in models:
                if is_admitted(model, variables, tree):
                    if is_clean(model, variables, tree):
                        clean = clean or model
                    else:
                        counter = counter or model
            self.written(variables, tree, counter, clean, minima)

    def turning_widths(self, variables, tree, minima):
        """The minima, the widths that hold the numbers of each node, and such that are a little more than these."""
        numbers = [end for row in variables for end in row[2:]]
        for node in all_nodes(tree):
            if node[0] in ("shl", "shr"):
                numbers.append(2 ** node[2])
            if node[0] in ("less", "most", "not", "and", "or"):
                continue
            numbers.extend(bounds(variables, node))
        lengths = {number.bit_length() + more for number in numbers for more in (0, 1)}
        lengths |= {(-number - 1).bit_length() + 1 for number in numbers if number < 0}
        found = {bits + more for bits in lengths | set(minima) for more in (0, 1)}
        return sorted(bits for bits in found if 2 <= bits <= 128)


class WrittenOut(Portable):
    def test_signs_at_equal_widths(self):
        variables = [("x", "char", 0, 100)]
        self.written(variables, ("cast", "schar", X), None, (DEFAULT, "s"))
        # Only an unsigned `char` admits the variable, or one with more bits.
        self.written([("x", "char", 0, 200)], X, None, (DEFAULT, "u"))
        self.written([("x", "char", 0, 200)], ("cast", "schar", X), (DEFAULT, "u"), ((9, 16, 16, 32, 64), "s"))
        self.written([("x", "char", -1, 0)], ("shl", X, 0), (DEFAULT, "s"), None)

    def test_plain_means_nothing(self):
        self.written([("x", "int", 0, 32767)], ("add", X, ONE), (DEFAULT, "s"), ((8, 16, 17, 32, 64), "s"))

    def test_no_model_admits(self):
        for variables, tree in (([("x", "uint", -1, 0)], X), ([], ("lit", 2 ** 128, "uw")), ([], ("lit", 2 ** 127, "")),
                                ([("x", "wide", 0, 2 ** 127)], ONE), ([("x", "wide", -2 ** 127 - 1, 0)], ONE),
                                ([("x", "uwide", 0, 2 ** 128)], ONE), ([], ("lit", 10 ** 40, "")),
                                ([("x", "uint", -1, 0)], ("shl", X, 200))):
            for minima in (LEAST, DEFAULT, (128,) * 5):
                self.written(variables, tree, None, None, minima)

    def test_clean_in_all_and_in_none(self):
        self.written([("x", "int", -5, 5)], ("neg", X), None, (DEFAULT, "s"))
        self.written([("x", "int", -5, 5)], ("shl", X, 1), (DEFAULT, "s"), None)
        self.written([("x", "int", 0, 5)], ("shr", X, 128), (DEFAULT, "s"), None)
        self.written([("x", "int", 0, 5), ("y", "uint", 0, 5)], ("sub", X, Y), (DEFAULT, "s"), None)

    def test_minima(self):
        variables = [("x", "int", 0, 5)]
        plus = ("add", X, ("lit", 6, ""))
        self.written(variables, plus, None, (DEFAULT, "s"))
        self.written(variables, plus, ((2, 2, 4, 4, 4), "s"), ((2, 2, 5, 5, 5), "s"), LEAST)
        self.written(variables, plus, ((3, 3, 4, 4, 4), "s"), ((3, 3, 5, 5, 5), "s"), (3,) * 5)
        self.written(variables, plus, ((3, 4, 4, 4, 6), "s"), ((3, 4, 5, 5, 6), "s"), (3, 4, 4, 4, 6))
        self.written(variables, plus, None, ((3, 5, 5, 5, 6), "s"), (3, 5, 5, 5, 6))
        self.assertEqual(counter_model(variables, plus), counter_model(variables, plus, DEFAULT))

    def test_minima_close_to_the_greatest_width(self):
        top = 2 ** 127 - 1
        variables = [("x", "int", 0, top)]
        for minima in ((127,) * 5, (127, 127, 128, 128, 128), (128,) * 5):
            first = minima[:2] + (128, 128, 128)
            self.written(variables, X, None, (first, "s"), minima)
            self.written(variables, ("add", X, ONE), (first, "s"), None, minima)
            self.written(variables, ("sub", X, ONE), None, (first, "s"), minima)
        self.written([("x", "int", 0, 2 ** 126 - 1)], ("add", X, ONE), ((127,) * 5, "s"),
                     ((127, 127, 128, 128, 128), "s"), (127,) * 5)

    def test_widths_far_beyond_the_minima(self):
        for bits in (20, 40, 100, 128):
            variables = [("x", "int", 0, 2 ** (bits - 2) - 1)]
            widths = tuple(max(least, bits) for least in DEFAULT[2:])
            least = tuple(max(least, bits - 1) for least in DEFAULT[2:])
            self.written(variables, ("add", X, ONE), (DEFAULT[:2] + least, "s"), (DEFAULT[:2] + widths, "s"))
        self.written([("x", "int", 0, 2 ** 126)], ("shl", X, 1), (DEFAULT[:2] + (128,) * 3, "s"), None)
        # Only a `char` that is unsigned and has as many bits as `int` becomes a `uint`.
        self.written([("x", "char", 0, 1)], ("shl", X, 127), (DEFAULT, "s"), ((128,) * 5, "u"))
        self.written([("x", "schar", 0, 1)], ("shl", X, 127), (DEFAULT, "s"), None)
        self.written([("x", "char", 0, 1)], ("shl", ("cast", "uint", X), 127), (DEFAULT, "s"),
                     (DEFAULT[:2] + (128,) * 3, "s"))

    def test_types_of_literals(self):
        # Where `int` has 17 bits the literal is an `int`, and the sum has too few bits.
        variables = [("x", "int", 0, 1)]
        plus = ("add", X, ("lit", 2 ** 16 - 1, ""))
        self.written(variables, plus, ((8, 16, 17, 32, 64), "s"), (DEFAULT, "s"))
        self.written([], ("neg", ("lit", 2 ** 15, "")), None, (DEFAULT, "s"))
        self.written([], ("neg", ("lit", 2 ** 16 - 1, "u")), (DEFAULT, "s"), None)
        for suffix, least in (("", 16), ("l", 32), ("w", 64)):
            literal = ("lit", 2 ** (least - 1) - 1, suffix)
            self.written([], ("add", literal, ("lit", 1, suffix)), (DEFAULT, "s"), self.wider(least))

    def wider(self, least):
        at = DEFAULT.index(least) if least != 16 else 2
        return (DEFAULT[:at] + (least + 1,) + DEFAULT[at + 1:], "s")

    def test_every_suffix_against_all_models(self):
        for suffix in SUFFIX_KINDS:
            for number in (0, 1, 3, 4, 7):
                literal = ("lit", number, suffix)
                self.check([], ("add", literal, ("lit", 1, "")), LEAST, 6)
                self.check([("x", "int", -1, 1)], ("most", X, literal), LEAST, 6)

    def test_equal_neighbours(self):
        # A `ushort` becomes an `int` or a `uint`, by whether it has fewer bits.
        variables = [("x", "ushort", 0, 3), ("y", "ushort", 0, 3)]
        self.written(variables, ("sub", X, Y), ((2, 2, 2, 2, 2), "s"), ((2, 2, 3, 3, 3), "s"), LEAST)
        self.written(variables, ("sub", X, ("cast", "long", Y)), ((2, 2, 2, 2, 2), "s"), ((2, 2, 2, 3, 3), "s"), LEAST)

    def test_a_condition(self):
        variables = [("x", "int", -5, 5), ("y", "uint", 0, 5)]
        self.written(variables, ("less", X, Y), (DEFAULT, "s"), None)
        self.written(variables, ("less", ("cast", "long", X), Y), ((8, 16, 32, 32, 64), "s"), (DEFAULT, "s"))

    def test_parts_that_never_run(self):
        self.written([("x", "int", -5, 5)], ("if", TRUE, ONE, ("shl", X, 1)), None, (DEFAULT, "s"))
        self.written([("x", "int", -5, 5)], ("or", TRUE, ("less", ("shl", X, 1), ONE)), None, (DEFAULT, "s"))


class Classes(unittest.TestCase):
    """A clean expression stays clean in a wider model of its class."""

    def of_class(self, model, tree):
        """What is the same in all models of a class."""
        widths, plain = model
        kinds = [next(kind for kind in SUFFIX_KINDS[node[2]] if node[1] <= limits(model, kind)[1])
                 for node in all_nodes(tree) if node[0] == "lit"]
        return (plain, [widths[at] == widths[at + 1] for at in range(4)], kinds)

    def test_wider_models(self):
        rng = random.Random(113)
        models = all_models(LEAST, 6)
        wider = 0
        for _ in range(60):
            variables = random_variables(rng, 2, reach=2)
            tree = random_tree(rng, ["a", "b"], rng.randrange(2, 8), rng.choice("EC"), numbers=(0, 1, 2, 3))
            admitted = [model for model in models if is_admitted(model, variables, tree)]
            clean = [model for model in admitted if is_clean(model, variables, tree)]
            for model in rng.sample(clean, min(5, len(clean))):
                for other in rng.sample(admitted, min(60, len(admitted))):
                    if all(bits <= more for bits, more in zip(model[0], other[0])):
                        if self.of_class(model, tree) == self.of_class(other, tree):
                            wider += model != other
                            self.assertTrue(is_clean(other, variables, tree))
        self.assertGreater(wider, 50)

    def test_far_wider_models(self):
        variables = [("x", "short", -5, 5), ("y", "int", -9, 9)]
        tree = ("mul", X, ("sub", Y, ONE))
        self.assertEqual(least_clean_model(variables, tree, LEAST), ((2, 4, 7, 7, 7), "s"))
        for widths in ((2, 4, 7, 7, 7), (3, 4, 8, 8, 8), (2, 5, 128, 128, 128), (100, 101, 102, 102, 102)):
            self.assertTrue(is_clean((widths, "s"), variables, tree))

    def test_other_classes(self):
        # More bits alone do not keep it clean: the neighbouring widths are equal now.
        variables = [("x", "ushort", 0, 3), ("y", "ushort", 0, 3)]
        self.assertTrue(is_clean(((2, 2, 3, 3, 3), "s"), variables, ("sub", X, Y)))
        self.assertFalse(is_clean(((3, 3, 3, 3, 3), "s"), variables, ("sub", X, Y)))


class Errors(unittest.TestCase):
    def check(self, wanted, *arguments):
        for function in (is_portable, counter_model, least_clean_model):
            with self.subTest(function=function.__name__, arguments=arguments):
                self.assertEqual(raised(function, *arguments), wanted)

    def test_minima(self):
        for minima, index in (((), None), ((2, 2, 2, 2), None), ((2,) * 6, None), ((1, 2, 2, 2, 2), 0),
                              ((2, 2, 2, 2, 129), 4), ((129,) * 5, 0), ((8, 16, 15, 32, 64), 2), ((8, 7, 6, 5, 4), 1),
                              ((-10 ** 40, 2, 2, 2, 2), 0), ((2, 2, 10 ** 40, 2, 2), 2), ((0, 0, 0, 0), None)):
            self.check((InvalidModel, index), [], ONE, minima)
        for minima in (LEAST, (128,) * 5, (2, 2, 2, 2, 128)):
            self.check(None, [], ONE, minima)

    def test_order(self):
        twice = [("x", "int", 0, 1), ("x", "int", 0, 1)]
        self.check((InvalidVariables, 1), twice, ("neg", Y), ())
        self.check((InvalidExpression, (0,)), twice[:1], ("neg", Y), ())
        self.check((InvalidModel, None), twice[:1], ("neg", X), ())
        self.check((InvalidVariables, 1), twice, ("neg", Y))
        self.check((InvalidExpression, (0,)), twice[:1], ("neg", Y))


class Examples(unittest.TestCase):
    def test_example_of_the_document(self):
        variables = [('x', 'ushort', 0, 60000), ('y', 'ushort', 0, 60000)]
        minus = ('sub', ('var', 'x'), ('var', 'y'))
        x, y = ('cast', 'long', ('var', 'x')), ('cast', 'long', ('var', 'y'))
        self.assertEqual(
            [counter_model(variables, minus), least_clean_model(variables, minus),
             counter_model(variables, ('sub', x, ('var', 'y'))), is_portable(variables, ('sub', x, y))],
            [((8, 16, 16, 32, 64), 's'), ((8, 16, 17, 32, 64), 's'), ((8, 32, 32, 32, 64), 's'), True])


if __name__ == "__main__":
    unittest.main()
