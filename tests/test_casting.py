"""The fewest casts that make expressions clean in several models, the ways to put them, and one of these ways."""

import itertools
import random
import unittest

from castforms.casting import count_ways, fewest_casts, with_casts
from castforms.clean import first_unclean, is_clean
from castforms.errors import InvalidExpression, InvalidModel, InvalidNumber, InvalidVariables, NotAdmitted
from castforms.expressions import nodes
from support import CONDITIONS, KINDS, LP32, all_models, all_nodes, is_admitted, parts_of, raised, random_tree
from support import random_variables

LLP = ((8, 16, 32, 32, 64), "s")
WIDER = ((8, 16, 32, 64, 64), "s")
EQUAL = ((16,) * 5, "s")
UNSIGNED_CHAR = ((8, 16, 16, 32, 64), "u")
V, W, X, Y, Z = [("var", name) for name in "vwxyz"]
ONE, FIVE = ("lit", 1, ""), ("lit", 5, "")
NEVER, ALWAYS = ("less", ONE, ("lit", 0, "")), ("less", ("lit", 0, ""), ONE)
SHORTS = [("x", "ushort", 0, 60000), ("y", "ushort", 0, 60000)]
MIXED = [("x", "int", -5, 5), ("y", "uint", 0, 5)]
MINUS = ("sub", X, Y)


def with_parts(node, new_parts):
    left = list(new_parts)
    return tuple(left.pop(0) if isinstance(item, tuple) else item for item in node)


def put(path, node, kinds):
    """A node with casts around it and within, to the types by their paths."""
    whole = with_parts(node, [put(path + (number,), part, kinds) for number, part in enumerate(parts_of(node))])
    return ("cast", kinds[path], whole) if path in kinds else whole


def ways_of(variables, expression, many):
    """All ways to put so many casts: at most one around each expression."""
    paths = [path for path, node in nodes(variables, expression) if node[0] not in CONDITIONS]
    for chosen in itertools.combinations(paths, many):
        for kinds in itertools.product(KINDS, repeat=many):
            yield put((), expression, dict(zip(chosen, kinds)))


def clean_ways(models, variables, expression, many):
    return [tree for tree in ways_of(variables, expression, many)
            if all(is_clean(model, variables, tree) for model in models)]


def numbers_of_casts(given, tree):
    """With how many casts, at most one around each expression, the given expression can have become the tree."""
    found = numbers_within(given, tree)
    if tree[0] == "cast" and given[0] not in CONDITIONS:
        found = found | {number + 1 for number in numbers_within(given, tree[2])}
    return found


def numbers_within(given, tree):
    """As numbers_of_casts, without a cast around the whole."""
    def own(node):
        return [None if isinstance(item, tuple) else item for item in node]

    if own(given) != own(tree):
        return set()
    of_parts = [numbers_of_casts(*pair) for pair in zip(parts_of(given), parts_of(tree))]
    return {sum(chosen) for chosen in itertools.product(*of_parts)}


class Casting(unittest.TestCase):
    def check(self, models, variables, expression, most=2):
        """Against all ways to put up to so many casts; returns the least number if it is not beyond that."""
        found = (fewest_casts(models, variables, expression), count_ways(models, variables, expression))
        tree = with_casts(models, variables, expression)
        with self.subTest(models=models, variables=variables, expression=expression):
            self.check_tree(models, variables, expression, found, tree)
            for many in range(most + 1):
                clean = clean_ways(models, variables, expression, many)
                if clean:
                    self.assertEqual(found, (many, len(clean)))
                    self.assertIn(tree, clean)
                    return many
            self.assertTrue(found[0] is None or found[0] > most, found)
        return found[0]

    def check_tree(self, models, variables, expression, found, tree):
        """What holds of the expression with casts, whatever their number is."""
        fewest, ways = found
        self.assertIs(tree is None, fewest is None)
        self.assertIs(ways == 0, fewest is None)
        if tree is not None:
            many = len(list(nodes(variables, expression)))
            self.assertEqual(len(list(nodes(variables, tree))), many + fewest)
            self.assertIn(fewest, numbers_of_casts(expression, tree))
            for model in models:
                self.assertIsNone(first_unclean(model, variables, tree))


class WrittenOut(Casting):
    def check_that(self, wanted, models, variables, expression, most=2):
        """Also against the number of casts and of ways that are wanted."""
        self.check(models, variables, expression, most)
        with self.subTest(models=models, expression=expression):
            self.assertEqual((fewest_casts(models, variables, expression), count_ways(models, variables, expression)),
                             wanted)

    def test_clean_already(self):
        for models in ([WIDER], [WIDER, WIDER], [WIDER, LLP, WIDER, LLP]):
            for tree in (MINUS, X, ("neg", X), ("cast", "uwide", ("add", X, Y)), ("lit", 5, "uw"),
                         ("if", ("less", X, Y), ONE, FIVE)):
                self.check_that((0, 1), models, SHORTS, tree)
                self.assertEqual(with_casts(models, SHORTS, tree), tree)

    def test_one_cast_in_several_ways(self):
        # Around either variable, to `long` or to `wide`.
        self.check_that((1, 4), [LP32], SHORTS, MINUS)
        self.check_that((1, 4), [LP32, WIDER], SHORTS, MINUS)
        self.check_that((1, 2), [LP32, WIDER], SHORTS, ("neg", ("mul", X, Y)))
        self.check_that((1, 4), [LP32], [("x", "int", 0, 5)], ("shl", X, 20))

    def test_around_literals(self):
        sum_of_literals = ("sub", ("lit", 40000, "u"), ("lit", 50000, "u"))
        self.check_that((1, 4), [LP32], [], sum_of_literals)
        # An unsigned type with 32 bits is enough.
        self.check_that((1, 8), [LLP], [], ("mul", ("lit", 65000, ""), ("lit", 40000, "")))
        # It is an `int`, or a `long` that has as many bits as `wide`.
        self.check_that((None, 0), [((8, 16, 32, 32, 32), "s")], [], ("shl", ("lit", 40000, ""), 17))
        self.check_that((1, 2), [LLP], [], ("shl", ("lit", 40000, ""), 17))

    def test_around_casts_that_stand_there(self):
        tree = ("sub", ("cast", "uint", X), ("cast", "ushort", Y))
        self.check_that((1, 4), [LP32], SHORTS, tree)
        chosen = with_casts([LP32], SHORTS, tree)
        self.assertIn("cast", [node[2][0] for node in all_nodes(chosen) if node[0] == "cast"])
        # No cast around it or within makes the result of a cast another one.
        self.check_that((None, 0), [LP32], SHORTS, ("cast", "short", X))
        self.check_that((None, 0), [LP32, WIDER], SHORTS, ("add", ("cast", "schar", X), ONE))
        self.check_that((1, 4), [LP32], [("x", "int", 0, 9)], ("cast", "long", ("shl", ("cast", "char", X), 14)))

    def test_cannot_be_clean(self):
        self.check_that((None, 0), [EQUAL], SHORTS, MINUS)
        self.check_that((None, 0), [LP32, EQUAL], SHORTS, MINUS)
        self.check_that((None, 0), [LP32], [("x", "int", -1, 9)], ("shl", X, 0))
        self.check_that((None, 0), [LP32], [("x", "int", 0, 9)], ("shr", X, 64))
        self.check_that((None, 0), [LP32], [], ("add", ("neg", ("shl", ("lit", 1, ""), 99)), ONE), 1)
        # What cannot be mended stands in a condition, and in a branch.
        self.check_that((None, 0), [LP32], [("x", "int", -1, 9)], ("if", ("less", ("shl", X, 0), ONE), ONE, FIVE), 1)
        self.check_that((None, 0), [LP32], [("x", "int", -1, 9)], ("if", ALWAYS, ("shl", X, 0), FIVE), 1)

    def test_two_or_more(self):
        two = ("if", ("less", X, Y), ("shl", Z, 20), ONE)
        variables = MIXED + [("z", "int", 0, 5)]
        self.check_that((2, 9 * 4), [LP32], variables, two)
        # Both branches are a `wide`: with a `uwide` the negative one would not be clean.
        three = ("if", ("less", X, Y), ("neg", ("shl", Z, 20)), ("shl", W, 2))
        self.check_that((3, 8), [LP32, ((8, 16, 16, 16, 64), "s")], variables + [("w", "int", 0, 30000)], three, 1)

    def test_two_in_one_branch(self):
        variables = [("x", "uint", 1, 5), ("y", "uint", 1, 5)]
        self.check_that((2, 49), [LP32], variables, ("if", ALWAYS, ("mul", ("neg", X), ("neg", Y)), ONE))
        variables = [("x", "int", 0, 1), ("y", "int", 0, 1)]
        self.check([LP32], variables, ("add", ("shl", X, 20), ("shl", ("shr", Y, 17), 1)))
        tree = ("if", ("most", ("shl", X, 20), ("shr", Y, 17)), ("shl", ("lit", 2, ""), 14), ONE)
        self.assertEqual(self.check([LP32], variables, tree, 1), 3)

    def test_conditions_within(self):
        for condition in (("less", X, Y), ("most", X, Y), ("not", ("less", Y, X)), ("and", ALWAYS, ("most", X, Y)),
                          ("or", NEVER, ("less", X, Y)), ("not", ("or", ("less", X, Y), ALWAYS))):
            self.check_that((1, 9), [LP32], MIXED, ("if", condition, ONE, FIVE), 1)
            self.check([LP32, LLP], MIXED, ("if", condition, ("lit", 3, "u"), ("neg", ONE)), 1)

    def test_parts_that_never_run(self):
        # The comparison would go wrong.
        for condition in (("and", NEVER, ("less", X, Y)), ("or", ALWAYS, ("less", X, Y))):
            self.check_that((0, 1), [LP32], MIXED, ("if", condition, ONE, FIVE))
        # The part never runs, but its type makes that of the whole; a cast within may be to any type.
        variables = [("x", "int", 0, 1), ("y", "uint", 0, 60000)]
        self.check_that((1, 11), [LP32], variables, ("if", NEVER, Y, ("neg", X)), 1)
        self.check([LP32, LLP], variables, ("if", NEVER, ("mul", Y, FIVE), ("neg", X)), 1)
        self.check_that((0, 1), [LP32], variables, ("if", NEVER, ("shl", X, 200), ("shr", Y, 3)))
        self.check_that((0, 1), [LP32], variables, ("if", ALWAYS, ("add", X, ONE), ("cast", "schar", Y)))

    def test_counts_of_shifts_ask_for_bits(self):
        variables = [("x", "int", 0, 0)]
        self.check_that((0, 1), [LP32], variables, ("shr", X, 15))
        self.check_that((1, 4), [LP32], variables, ("shr", X, 16))
        self.check_that((1, 2), [LP32], variables, ("shl", X, 32))
        self.check_that((1, 2), [LP32, WIDER, LLP, ((16, 16, 16, 16, 64), "u")], variables,
                        ("shr", X, 63))
        self.check_that((None, 0), [LP32], variables, ("shr", X, 64))

    def test_one_model_alone_needs_a_cast(self):
        others = [WIDER, ((8, 16, 64, 64, 64), "u"), ((8, 16, 32, 32, 32), "s")]
        self.check_that((0, 1), others, SHORTS, MINUS)
        for at in range(4):
            models = list(others)
            models.insert(at, LP32)
            self.check_that((1, 4), models, SHORTS, MINUS)

    def test_models_that_ask_for_other_casts(self):
        # In the first model `int` is enough, in the second one only `wide` is.
        first, second = ((8, 16, 32, 32, 32), "s"), ((8, 16, 16, 16, 32), "s")
        variables = [("x", "uint", 0, 60000)]
        self.check_that((1, 4), [first], variables, ("neg", X))
        self.check_that((1, 1), [second], variables, ("neg", X))
        self.check_that((1, 1), [first, second], variables, ("neg", X))
        self.check_that((None, 0), [first, EQUAL], variables, ("neg", X))
        # What the first model needs is what the second one must not have.
        first, second = ((4, 8, 8, 16, 16), "s"), ((4, 4, 16, 16, 17), "s")
        self.check([first, second], [("x", "uint", 0, 200), ("y", "int", -9, 9)], ("add", X, Y))

    def test_a_cast_makes_another_step_unclean(self):
        # As a `uint` the first part could not be negative, as a `wide` it makes the sum a `wide`.
        variables = [("x", "uint", 1, 5), ("y", "uwide", 0, 2 ** 64 - 50)]
        tree = ("add", ("neg", X), Y)
        self.assertEqual(self.check([LP32], variables, tree), None)
        variables = [("x", "uint", 1, 5), ("y", "uint", 10, 60000)]
        self.assertEqual(self.check([EQUAL], variables, ("add", ("neg", X), Y)), None)
        for top in (60000, 20000):
            variables = [("x", "uint", 1, 5), ("y", "ulong", 10, top)]
            for models in ([LP32], [LLP], [((8, 16, 16, 16, 17), "s")], [LP32, LLP]):
                self.check(models, variables, ("add", ("neg", X), Y))

    def test_types_with_as_many_bits(self):
        # With a `long` that has as many bits as `uint` the common type is `ulong`.
        equal, unequal = ((8, 8, 16, 16, 32), "s"), ((8, 8, 16, 17, 32), "s")
        variables = [("x", "uint", 0, 9), ("y", "int", -9, 9)]
        self.check_that((1, 9), [equal], variables, ("add", X, Y))
        self.check_that((1, 10), [unequal], variables, ("add", X, Y))
        self.check_that((1, 9), [equal, unequal], variables, ("add", X, Y))

    def test_both_signs_of_char(self):
        small, variables = ((8, 8, 8, 8, 9), "s"), [("x", "uint", 0, 9), ("y", "int", -9, 9)]
        for tree in (("add", X, Y), ("sub", Y, X), ("if", ("less", X, Y), ONE, FIVE)):
            signed, unsigned = [small], [(small[0], "u")]
            self.check(signed, variables, tree, 1)
            self.check(unsigned, variables, tree, 1)
            self.check(signed + unsigned, variables, tree, 1)
            self.assertEqual(count_ways(signed, variables, tree), count_ways(unsigned, variables, tree) + 1)
        # An unsigned `char` with fewer bits than `int` becomes an `int`, too.
        self.check_that((1, 7), [LP32], [("x", "uint", 1, 5)], ("neg", X))
        self.check_that((1, 7), [UNSIGNED_CHAR], [("x", "uint", 1, 5)], ("neg", X))
        self.check_that((1, 6), [EQUAL], [("x", "uint", 1, 5)], ("neg", X))
        self.check_that((1, 5), [(EQUAL[0], "u")], [("x", "uint", 1, 5)], ("neg", X))


class Trials(Casting):
    """Drawn expressions of every word."""

    def draw(self, rng, models, most_nodes, reach):
        """Variables that all occur, and an expression that all models admit; None if the draw has failed."""
        many = rng.randrange(1, most_nodes + 1)
        variables = random_variables(rng, 4, reach=reach)
        names = [row[0] for row in variables]
        if many > 6 and rng.random() < 0.5:
            branches = [random_tree(rng, names, size) for size in (1, 2)]
            tree = ("if", random_tree(rng, names, many - 4, "C"), *branches)
        else:
            tree = random_tree(rng, names, many)
        used = [node[1] for node in all_nodes(tree) if node[0] == "var"]
        variables = [row for row in variables if row[0] in used]
        return (variables, tree) if all(is_admitted(model, variables, tree) for model in models) else None

    def check_drawn(self, seed, many, most_nodes, most, bits, also_clean=True):
        """Checks so many draws; returns all their words, and the least number of casts of each."""
        rng = random.Random(seed)
        every = all_models((2, 2, 2, 2, 2), bits)
        words, found = set(), []
        while len(found) < many:
            models = [rng.choice(every) for _ in range(rng.choice([1, 2, 2, 3, 4]))]
            if rng.random() < 0.1:
                models = models[:1] * 4
            drawn = self.draw(rng, models, most_nodes, rng.choice([2, 4, 8]))
            if drawn is None or not also_clean and all(is_clean(model, *drawn) for model in models):
                continue
            found.append(self.check(models, drawn[0], drawn[1], most))
            words.update(node[0] for node in all_nodes(drawn[1]))
        return words, found

    def test_up_to_three_nodes(self):
        _, found = self.check_drawn(161, 300, 3, 2, 5)
        for wanted in (0, 1, None):
            self.assertGreater(found.count(wanted), 10)

    def test_two_casts(self):
        _, found = self.check_drawn(165, 80, 6, 2, 7, False)
        self.assertGreater(found.count(1), 20)
        self.assertGreater(found.count(2), 1)

    def test_one_cast_in_longer_expressions(self):
        words, found = self.check_drawn(163, 250, 14, 1, 8, False)
        self.assertEqual(len(words), 15)
        for wanted in (1, 2, 3, None):
            self.assertGreater(found.count(wanted), 2)


class GreatNumbers(Casting):
    def test_parts_that_do_not_depend_on_each_other(self):
        """Each comparison needs a cast of its own, and the ways to mend one do not depend on the others."""
        variables, condition = [], ALWAYS
        for first, second in ("ab", "cd", "ef", "gh"):
            variables += [(first, "int", -5, 5), (second, "uint", 0, 5)]
            condition = ("and", ("less", ("var", first), ("var", second)), condition)
        tree = ("if", condition, ONE, ("neg", ("neg", ONE)))
        self.assertEqual(len(all_nodes(tree)), 24)
        for models, ways in (([LP32], 9), ([LP32, UNSIGNED_CHAR], 9), ([LP32, WIDER, EQUAL], 6)):
            one = ("if", ("less", ("var", "a"), ("var", "b")), ONE, ONE)
            self.assertEqual(len(clean_ways(models, variables[:2], one, 1)), ways)
            self.assertEqual((fewest_casts(models, variables, tree), count_ways(models, variables, tree)),
                             (4, ways ** 4))
            found = (4, ways ** 4)
            self.check_tree(models, variables, tree, found, with_casts(models, variables, tree))

    def test_casts_in_a_chain(self):
        """One cast around any of the parts in which a sum nests, to each type that holds what it is there."""
        variables = [(name, "uint", 0, 100) for name in "abcdefgh"]
        tree = ("sub", ("lit", 0, "u"), ("var", "a"))
        for name in "bcdefgh":
            tree = ("sub", tree, ("var", name))
        self.assertEqual(self.check([LP32], variables, tree, 1), 1)
        for model in (LP32, EQUAL, LLP):
            tree = ("lit", 7, "u")
            for _ in range(23):
                tree = ("neg", ("neg", tree)) if len(all_nodes(tree)) < 22 else tree
            self.assertEqual(self.check([model], [], tree, 1), 1)

    def test_many_casts(self):
        """A cast around each of eleven variables and literals, which stand alone."""
        tree = ("lit", 1, "")
        for number in range(5):
            tree = ("if", ALWAYS if number == 0 else ("most", ("neg", ("lit", 1, "u")), ("lit", 1, "")), tree, ONE)
        one = ("if", ("most", ("neg", ("lit", 1, "u")), ("lit", 1, "")), ONE, ONE)
        found = (fewest_casts([LP32], [], one), count_ways([LP32], [], one))
        self.assertEqual(self.check([LP32], [], one, 1), 1)
        self.assertEqual((fewest_casts([LP32], [], tree), count_ways([LP32], [], tree)),
                         (4 * found[0], found[1] ** 4))


class Errors(unittest.TestCase):
    WRONG_MODELS = [((8, 16, 16, 32), "s"), None], [((8, 16, 15, 32, 64), "s"), 2], [((8, 16, 16, 32, 64), "x"), None]
    TWICE = SHORTS + [("x", "int", 0, 1)]

    def check(self, wanted, models, variables, expression):
        for function in (fewest_casts, count_ways, with_casts):
            with self.subTest(function=function.__name__, wanted=wanted):
                self.assertEqual(raised(function, models, variables, expression), wanted)

    def test_no_models(self):
        self.check((InvalidNumber, 0), [], SHORTS, MINUS)
        self.check((InvalidNumber, 0), [], self.TWICE, ("neg",))

    def test_models(self):
        for model, index in self.WRONG_MODELS:
            self.check((InvalidModel, index), [model], SHORTS, MINUS)
            self.check((InvalidModel, index), [LP32, WIDER, model, LP32], self.TWICE, ("neg",))
        short, narrow = ((8, 16), "s"), ((8, 1, 16, 32, 64), "s")
        self.check((InvalidModel, 1), [LP32, narrow, short], SHORTS, MINUS)
        self.check((InvalidModel, None), [LP32, short, narrow], SHORTS, MINUS)

    def test_variables(self):
        self.check((InvalidVariables, 2), [LP32, WIDER], self.TWICE, ("neg",))
        self.check((InvalidVariables, 0), [LP32], [("x", "int", 1, 0)], ("neg",))
        self.check((InvalidVariables, 0), [LP32], [("x", "byte", 0, 1)], X)

    def test_expressions(self):
        held = [("x", "uint", -1, 0), ("y", "int", 0, 1)]
        self.check((InvalidExpression, (1,)), [LP32], held, ("add", X, ("neg",)))
        self.check((InvalidExpression, (1,)), [LP32], held, ("add", X, X))
        self.check((InvalidExpression, (0,)), [LP32], held, ("cast", "int", ("less", X, Y)))
        self.check((InvalidExpression, ()), [LP32], held, ("cast", "byte", X))

    def test_admission(self):
        self.check((NotAdmitted, ("variable", "x")), [LP32], [("x", "uint", -1, 0)], X)
        self.check((NotAdmitted, ("literal", (1,))), [LP32], SHORTS, ("add", X, ("lit", 2 ** 64, "")))

    def test_the_first_model_that_does_not_admit(self):
        variables = [("x", "short", 0, 20000), ("y", "int", 0, 40000)]
        tree = ("add", X, ("lit", 2 ** 40, ""))
        no_x, no_y, no_literal = ((8, 8, 32, 32, 64), "s"), LP32, ((8, 16, 32, 32, 32), "s")
        self.check((NotAdmitted, ("variable", "y")), [WIDER, no_y, no_x, no_literal], variables, tree)
        self.check((NotAdmitted, ("variable", "x")), [WIDER, no_x, no_literal, no_y], variables, tree)
        self.check((NotAdmitted, ("literal", (1,))), [no_literal, no_x], variables, tree)
        self.check((InvalidModel, 0), [no_literal, ((0, 1, 2, 3, 4), "s")], variables, tree)
        # A cast changes nothing about what a model admits.
        self.check((NotAdmitted, ("variable", "y")), [no_y], variables, ("cast", "wide", Y))


class Examples(unittest.TestCase):
    def test_example_of_the_document(self):
        variables = [('x', 'ushort', 0, 60000), ('y', 'ushort', 0, 60000)]
        minus = ('sub', ('var', 'x'), ('var', 'y'))
        models = [((8, 16, 16, 32, 64), 's'), ((8, 16, 32, 64, 64), 's')]
        self.assertEqual(
            [fewest_casts(models, variables, minus), count_ways(models, variables, minus),
             fewest_casts(models[1:], variables, minus),
             fewest_casts([((16, 16, 16, 16, 16), 's')], variables, minus)],
            [1, 4, 0, None])


if __name__ == "__main__":
    unittest.main()
