"""The cheapest types for variables with which an expression is clean."""

import itertools
import random
import unittest

from castforms.choosing import cheapest_types
from castforms.clean import is_clean
from castforms.errors import InvalidExpression, InvalidModel, InvalidVariables, NotAdmitted
from castforms.expressions import admission
from castforms.models import holds, width
from support import CONDITIONS, KINDS, LP32, all_models, all_nodes, literals_have_types, raised, random_tree
from support import random_variables

LLP = ((8, 16, 32, 32, 64), "s")
WIDER = ((8, 16, 32, 64, 64), "s")
EQUAL = ((16,) * 5, "s")
UNSIGNED_CHAR = ((8, 16, 16, 32, 64), "u")
W, X, Y, Z = [("var", name) for name in "wxyz"]
ONE, FIVE = ("lit", 1, ""), ("lit", 5, "")
NEVER, ALWAYS = ("less", ONE, ("lit", 0, "")), ("less", ("lit", 0, ""), ONE)


def typed(variables, kinds):
    return [(name, kind, low, high) for (name, _, low, high), kind in zip(variables, kinds)]


def cheapest_by_trying(model, variables, expression):
    """Of all lists of types those with which the expression is clean, and of these the first cheapest one."""
    best = None
    for kinds in itertools.product(KINDS, repeat=len(variables)):
        given = typed(variables, kinds)
        if all(holds(model, row[1], row[2]) and holds(model, row[1], row[3]) for row in given):
            if is_clean(model, given, expression):
                # The lists are tried in ascending order: only a cheaper one is better than one before.
                bits = sum(width(model, kind) for kind in kinds)
                best = (bits, list(kinds)) if best is None or bits < best[0] else best
    return None if best is None else best[1]


class Choosing(unittest.TestCase):
    def check(self, model, variables, expression):
        """Against all lists of types."""
        wanted = cheapest_by_trying(model, variables, expression)
        with self.subTest(model=model, variables=variables, expression=expression):
            self.assertEqual(cheapest_types(model, variables, expression), wanted)
        return wanted

    def check_that(self, wanted, model, variables, expression):
        self.assertEqual(self.check(model, variables, expression), wanted)


class WrittenOut(Choosing):
    def test_one_variable(self):
        self.check_that(["char"], LP32, [("x", "wide", 0, 5)], X)
        self.check_that(["uchar"], LP32, [("x", "wide", 0, 200)], X)
        self.check_that(["char"], UNSIGNED_CHAR, [("x", "wide", 0, 200)], X)
        self.check_that(["schar"], UNSIGNED_CHAR, [("x", "wide", -1, 5)], X)
        self.check_that(["short"], LP32, [("x", "wide", 0, 256)], X)
        self.check_that(["ushort"], LP32, [("x", "wide", 0, 60000)], X)
        self.check_that(["uwide"], LP32, [("x", "char", 0, 2 ** 64 - 1)], X)
        self.check_that(["long"], LP32, [("x", "char", 0, 60000)], ("neg", X))
        self.check_that(["short"], LLP, [("x", "char", -1, 300)], ("neg", X))

    def test_several_lists_with_the_same_sum(self):
        # Either variable may be the wider one: the list that begins with the lesser place counts.
        variables = [("x", "int", 0, 60000), ("y", "int", 0, 60000)]
        self.check_that(["ushort", "long"], LP32, variables, ("sub", X, Y))
        self.check_that(["ushort", "long"], LP32, variables, ("sub", Y, X))
        self.check_that(["ushort", "ushort"], WIDER, variables, ("sub", X, Y))
        # All of these types have 16 bits.
        for plain, wanted in (("s", ["char", "char"]), ("u", ["char", "char"])):
            self.check_that(wanted, (EQUAL[0], plain), [("x", "int", 0, 9), ("y", "int", 0, 9)], ("add", X, Y))
        self.check_that(["schar", "schar"], (EQUAL[0], "u"), [("x", "int", 0, 9), ("y", "int", 0, 9)], ("sub", X, Y))
        self.check_that(["char", "schar"], (EQUAL[0], "u"), [("x", "int", 0, 60000), ("y", "int", -9, 9)],
                        ("if", ALWAYS, X, ("cast", "uint", FIVE)))

    def test_variables_that_do_not_occur(self):
        self.check_that(["char", "ushort"], LP32, [("x", "int", 0, 5), ("y", "int", 0, 60000)], X)
        self.check_that(["ushort", "char"], LP32, [("y", "int", 0, 60000), ("x", "int", 0, 5)], X)
        self.check_that(["schar", "char", "uwide"], UNSIGNED_CHAR,
                        [("x", "int", -5, 5), ("z", "int", 0, 255), ("y", "int", 0, 2 ** 63)], ("lit", 3, "u"))

    def test_no_variables(self):
        self.check_that([], LP32, [], FIVE)
        self.check_that([], LP32, [], ("sub", FIVE, ONE))
        self.check_that(None, LP32, [], ("neg", ("lit", 5, "u")))
        self.check_that(None, LP32, [], ("shl", FIVE, 16))

    def test_variables_that_no_type_holds(self):
        for tree in (X, Y, FIVE, ("less", X, Y)):
            self.check_that(None, LP32, [("x", "int", 0, 5), ("y", "int", 0, 2 ** 64)], tree)
            self.check_that(None, LP32, [("x", "int", 0, 5), ("y", "int", -1, 2 ** 63)], tree)
            self.check_that(None, LP32, [("y", "int", -2 ** 63 - 1, 0), ("x", "int", 0, 5)], tree)
        self.check_that(["char", "uwide"], LP32, [("x", "int", 0, 5), ("y", "int", 0, 2 ** 64 - 1)], X)

    def test_types_that_stand_there_do_not_matter(self):
        for kind in KINDS:
            for other in KINDS:
                variables = [("x", kind, -5, 70000), ("y", other, 0, 10 ** 9)]
                self.assertEqual(cheapest_types(LP32, variables, ("add", X, Y)), ["long", "long"])

    def test_cannot_be_clean(self):
        variables = [("x", "int", 0, 60000), ("y", "int", 0, 60000)]
        self.check_that(None, EQUAL, variables, ("sub", X, Y))
        self.check_that(None, LP32, variables, ("cast", "char", X))
        self.check_that(None, LP32, variables, ("sub", X, ("cast", "uwide", Y)))
        self.check_that(None, LP32, [("x", "int", -1, 5)], ("shl", X, 1))
        self.check_that(None, LP32, variables, ("add", X, ("shr", FIVE, 99)))

    def test_parts_that_never_run(self):
        variables = [("x", "int", -5, 5), ("y", "int", 0, 60000)]
        # The second part never runs, but its type makes that of the whole.
        self.check_that(["char", "long"], LP32, variables, ("if", ALWAYS, X, Y))
        self.check_that(["char", "long"], LP32, variables, ("if", NEVER, Y, X))
        self.check_that(["char", "ushort"], LP32, variables, ("if", NEVER, ("shl", X, 99), Y))
        for condition in (("and", NEVER, ("less", X, Y)), ("or", ALWAYS, ("less", X, Y))):
            self.check_that(["char", "ushort"], LP32, variables, condition)
            self.check_that(["char", "ushort"], LP32, variables, ("if", condition, ONE, FIVE))
        for condition in (("and", ALWAYS, ("less", X, Y)), ("or", NEVER, ("most", X, Y)), ("not", ("less", Y, X))):
            self.check_that(["char", "long"], LP32, variables, condition)

    def test_conditions_as_the_whole(self):
        variables = [("x", "int", -5, 5), ("y", "int", 0, 200)]
        for condition in (("less", X, Y), ("most", Y, X), ("not", ("less", X, Y)), ALWAYS, NEVER):
            self.check_that(["char", "uchar"], LP32, variables, condition)

    def test_equal_widths_and_both_signs_of_char(self):
        variables = [("x", "int", -5, 5), ("y", "int", 0, 60000)]
        for widths in ((8, 16, 16, 16, 32), (16, 16, 16, 16, 32), (16, 16, 16, 17, 17), (8, 8, 16, 16, 17),
                       (4, 16, 17, 17, 17), (16, 16, 17, 18, 18)):
            for plain in "su":
                for tree in (("add", X, Y), ("less", X, Y), ("if", ("most", X, FIVE), Y, ONE), ("neg", X)):
                    self.check((widths, plain), variables, tree)


class Trials(Choosing):
    def check_drawn(self, seed, many, most_variables, most_bits):
        rng = random.Random(seed)
        models = all_models((2,) * 5, most_bits)
        words, found = set(), []
        while len(found) < many:
            variables = random_variables(rng, rng.randrange(most_variables + 1), reach=rng.choice([2, 4, 8]))
            rng.shuffle(variables)
            names = [row[0] for row in variables]
            tree = random_tree(rng, names, rng.randrange(3, 15), rng.choice("EEC"), (0, 1, 2, 3, 5, 7))
            model = rng.choice(models)
            if literals_have_types(model, tree):
                found.append(self.check(model, variables, tree))
                words.update(node[0] for node in all_nodes(tree))
        return words, found

    def test_up_to_two_variables(self):
        words, found = self.check_drawn(211, 600, 2, 7)
        self.assertEqual(len(words), 15)
        self.assertTrue(set(CONDITIONS) <= words)
        self.assertGreater(found.count(None), 50)
        self.assertGreater(len([kinds for kinds in found if kinds is not None]), 200)
        self.assertGreater(len({kind for kinds in found if kinds for kind in kinds}), 6)

    def test_three_variables(self):
        _, found = self.check_drawn(212, 60, 3, 6)
        self.assertIn(None, found)

    def test_four_variables(self):
        variables = [("w", "int", 0, 3), ("x", "int", -2, 3), ("y", "int", 0, 7), ("z", "int", -3, 0)]
        for model in (((3, 3, 4, 4, 5), "u"), ((2, 3, 3, 4, 5), "s")):
            self.check(model, variables, ("add", ("sub", W, X), ("mul", Y, Z)))


class Errors(unittest.TestCase):
    TWICE = [("x", "int", 0, 1), ("x", "int", 0, 1)]

    def check(self, wanted, *arguments):
        self.assertEqual(raised(cheapest_types, *arguments), wanted)

    def test_model(self):
        for model, index in ((((8, 16, 16, 32), "s"), None), (((8, 16, 15, 32, 64), "s"), 2),
                             (((8, 16, 16, 32, 64), "x"), None)):
            self.check((InvalidModel, index), model, [("x", "int", 0, 1)], X)
            self.check((InvalidModel, index), model, self.TWICE, ("neg",))

    def test_variables(self):
        self.check((InvalidVariables, 1), LP32, self.TWICE, ("neg",))
        self.check((InvalidVariables, 0), LP32, [("x", "byte", 0, 1)], ("lit", 10 ** 40, ""))
        self.check((InvalidVariables, 0), LP32, [("x", "int", 1, 0)], X)

    def test_expression(self):
        self.check((InvalidExpression, (1,)), LP32, [("x", "int", 0, 1)], ("add", ("lit", 10 ** 40, ""), ("neg",)))
        self.check((InvalidExpression, (1,)), LP32, [("x", "int", 0, 1)], ("add", X, X))
        self.check((InvalidExpression, ()), LP32, [("x", "int", 0, 10 ** 40)], Y)

    def test_first_literal_without_a_type(self):
        far = [("x", "int", 0, 10 ** 40)]
        great = ("lit", 2 ** 64, "uw")
        self.check((NotAdmitted, ("literal", ())), LP32, [], great)
        self.check((NotAdmitted, ("literal", (1,))), LP32, far, ("add", X, great))
        self.check((NotAdmitted, ("literal", (0, 0))), LP32, far, ("add", ("neg", great), great))
        self.check((NotAdmitted, ("literal", (1, 0))), LP32, far, ("if", ("less", X, ONE), ("neg", great), great))
        self.check((NotAdmitted, ("literal", (1,))), LP32, far, ("most", X, ("lit", 2 ** 63, "")))
        self.check(None, LP32, far, ("add", X, ("lit", 2 ** 63, "u")))
        # A literal that never runs has a type, too.
        self.check((NotAdmitted, ("literal", (2,))), LP32, [], ("if", ALWAYS, ONE, great))

    def test_variables_are_not_refused(self):
        for kind in KINDS:
            variables = [("x", kind, -1, 10 ** 40), ("y", kind, -5, 70000)]
            self.assertIsNone(cheapest_types(LP32, variables, Y))
            self.assertIsNotNone(admission(LP32, variables, Y))
            self.assertEqual(cheapest_types(LP32, variables[1:], Y), ["long"])


class Examples(unittest.TestCase):
    def test_example_of_the_document(self):
        variables = [('x', 'wide', 0, 60000), ('y', 'wide', 0, 60000)]
        minus = ('sub', ('var', 'x'), ('var', 'y'))
        self.assertEqual(
            [cheapest_types(((8, 16, 32, 64, 64), 's'), variables, minus),
             cheapest_types(((8, 16, 16, 32, 64), 's'), variables, minus),
             cheapest_types(((16, 16, 16, 16, 16), 's'), variables, minus)],
            [['ushort', 'ushort'], ['ushort', 'long'], None])


if __name__ == "__main__":
    unittest.main()
