"""Groupings of terms, their order, those that are clean, those that are portable; Terms check."""

import random
import unittest
from math import comb

from castforms.clean import is_clean
from castforms.errors import InvalidExpression, InvalidModel, InvalidNumber, InvalidVariables, NotAdmitted
from castforms.groupings import count_groupings, count_portable_groupings, nth_grouping
from castforms.models import common
from castforms.portable import is_portable
from support import KINDS, LP32, all_models, is_admitted, raised, random_tree, random_variables

LEAST = (2, 2, 2, 2, 2)
DEFAULT = (8, 16, 16, 32, 64)
A, B, C, D = [("var", name) for name in "abcd"]
ONE = ("lit", 1, "")


def all_groupings(terms):
    """Those of several terms, by the number of terms in the first part, then by it, then by the second one."""
    if len(terms) == 1:
        return [terms[0]]
    return [("add", first, second) for many in range(1, len(terms))
            for first in all_groupings(terms[:many]) for second in all_groupings(terms[many:])]


class Groupings(unittest.TestCase):
    def check(self, model, variables, terms):
        """Against all groupings; returns how many are clean."""
        clean = [tree for tree in all_groupings(terms) if is_clean(model, variables, tree)]
        with self.subTest(model=model, variables=variables, terms=terms):
            self.assertEqual(count_groupings(model, variables, terms), len(clean))
            for number, tree in enumerate(clean):
                self.assertEqual(nth_grouping(model, variables, terms, number), tree)
            for number in (-1, len(clean), len(clean) + 1, -10 ** 40, 10 ** 40):
                self.assertEqual(raised(nth_grouping, model, variables, terms, number), (InvalidNumber, number))
        return len(clean)

    def check_portable(self, variables, terms, minima):
        portable = [tree for tree in all_groupings(terms) if is_portable(variables, tree, minima)]
        with self.subTest(variables=variables, terms=terms, minima=minima):
            self.assertEqual(count_portable_groupings(variables, terms, minima), len(portable))
        return len(portable)


class InOneModel(Groupings):
    def test_one_term(self):
        variables = [("a", "int", -5, 5), ("b", "int", 0, 32767)]
        self.assertEqual(self.check(LP32, variables, [A]), 1)
        self.assertEqual(self.check(LP32, variables, [("add", B, ONE)]), 0)
        self.assertEqual(self.check(LP32, variables, [("if", ("less", A, ONE), B, ("lit", 3, ""))]), 1)
        self.assertEqual(nth_grouping(LP32, variables, [("neg", A)], 0), ("neg", A))

    def test_two_terms(self):
        variables = [("a", "int", 0, 9), ("b", "int", 0, 32760), ("c", "uint", 0, 9), ("d", "int", -1, 9)]
        for first, second, wanted in ((A, B, 0), (A, C, 1), (D, C, 0), (C, D, 0), (A, ("neg", B), 1),
                                      (("neg", D), A, 1), (("neg", C), A, 0)):
            self.assertEqual(self.check(LP32, variables, [first, second]), wanted)

    def test_order(self):
        variables = [(name, "int", 0, 9) for name in "abcd"]
        terms = [A, B, C, D]
        self.assertEqual(self.check(LP32, variables, terms), 5)
        self.assertEqual([nth_grouping(LP32, variables, terms, number) for number in range(5)], [
            ("add", A, ("add", B, ("add", C, D))), ("add", A, ("add", ("add", B, C), D)),
            ("add", ("add", A, B), ("add", C, D)), ("add", ("add", A, ("add", B, C)), D),
            ("add", ("add", ("add", A, B), C), D)])

    def test_some_are_clean(self):
        variables = [("a", "int", 0, 100), ("b", "int", 0, 100), ("c", "int", -100, -90), ("d", "int", -100, 27)]
        model = ((8, 8, 8, 16, 16), "s")
        seen = {self.check(model, variables, terms) for terms in (
            [A, B, C], [A, C, B], [A, B, C, D], [C, A, D, B], [A, ONE, C, B], [("cast", "long", A), B, C, D],
            [A, B, ("cast", "long", C)], [A, ("cast", "uint", B), C])}
        self.assertGreaterEqual(len(seen), 4)

    def test_types_and_conversions(self):
        # The sum of the first two is a `uint`, in which a negative third one is not clean.
        variables = [("a", "uint", 10, 20), ("b", "int", 0, 5), ("c", "int", -9, 5), ("d", "long", 0, 5)]
        self.assertEqual(self.check(LP32, variables, [A, B, C]), 0)
        self.assertEqual(self.check(LP32, variables, [D, A, C]), 1)
        self.assertEqual(nth_grouping(LP32, variables, [D, A, C], 0), ("add", ("add", D, A), C))
        self.assertEqual(self.check(LP32, variables, [A, D, B, C]), 5)
        self.assertEqual(self.check(LP32, variables, [D, A, B, C]), 3)

    def test_terms_that_are_sums(self):
        variables = [("a", "int", 0, 60), ("b", "int", 0, 60), ("c", "int", -60, -60), ("d", "int", 0, 60)]
        model = ((8, 8, 8, 8, 8), "s")
        self.assertEqual(self.check(model, variables, [("add", A, B), C, D]), 2)
        self.assertEqual(self.check(model, variables, [("add", ("add", A, B), D), C]), 0)
        self.assertEqual(self.check(model, variables, [("add", ("add", A, C), ("add", B, D))]), 1)
        self.assertEqual(self.check(model, variables, [A, B, C, D]), 5)
        self.assertEqual(self.check(model, variables, [A, B, D, C]), 3)

    def test_a_term_that_is_not_clean(self):
        variables = [("a", "int", 0, 9), ("b", "int", -9, 9), ("c", "int", 0, 9)]
        for terms in ([A, ("shl", B, 1), C], [("shl", B, 1), A, C], [A, C, ("shl", B, 1)], [("shr", A, 99)]):
            self.assertEqual(self.check(LP32, variables, terms), 0)

    def test_terms_with_conditions_within(self):
        variables = [("a", "int", 0, 9), ("b", "int", 0, 30000), ("c", "int", -30000, -30000),
                     ("d", "int", 0, 30000)]
        chosen = ("if", ("less", A, ("lit", 5, "")), B, ("neg", ONE))
        self.assertEqual(self.check(LP32, variables, [chosen, C, D]), 2)
        self.assertEqual(self.check(LP32, variables, [chosen, D, C]), 1)
        self.assertEqual(self.check(LP32, variables, [chosen, D]), 0)

    def test_equal_terms(self):
        self.assertEqual(self.check(LP32, [], [ONE, ONE, ONE, ONE]), 5)
        self.assertEqual(self.check(LP32, [], [("lit", 20000, ""), ("lit", 20000, ""), ("neg", ("lit", 20000, ""))]), 1)

    def test_random_terms(self):
        rng = random.Random(141)
        models = all_models(LEAST, 7)
        counts = []
        while len(counts) < 250:
            variables = random_variables(rng, rng.randrange(6))
            names = [row[0] for row in variables]
            terms = [random_tree(rng, names, rng.choice([1, 1, 1, 2, 3])) for _ in range(rng.randrange(1, 7))]
            for model in rng.sample(models, 6):
                if is_admitted(model, variables, all_groupings(terms)[-1]):
                    counts.append(self.check(model, variables, terms) * 100 // len(all_groupings(terms)))
        self.assertGreater(len([share for share in counts if 0 < share < 100]), 5)
        self.assertIn(100, counts)

    def test_common_types_do_not_depend_on_the_grouping(self):
        for model in all_models(LEAST, 6):
            if model[0][0] == 2 and model[0][1] < 4:
                for first in KINDS[2::2]:
                    for second in KINDS[::2]:
                        for third in KINDS[1:]:
                            self.assertEqual(common(model, common(model, first, second), third),
                                             common(model, first, common(model, second, third)))


class InAllModels(Groupings):
    def test_written_out(self):
        variables = [("a", "int", 0, 32767), ("b", "int", -32767, -32767), ("c", "int", 0, 32767),
                     ("d", "long", 0, 9)]
        self.assertEqual(self.check_portable(variables, [A], DEFAULT), 1)
        self.assertEqual(self.check_portable(variables, [A, B], DEFAULT), 1)
        self.assertEqual(self.check_portable(variables, [A, C], DEFAULT), 0)
        self.assertEqual(self.check_portable(variables, [A, B, C], DEFAULT), 2)
        self.assertEqual(self.check_portable(variables, [A, C, B], DEFAULT), 1)
        self.assertEqual(self.check_portable(variables, [A, C, B, D], DEFAULT), 3)
        self.assertEqual(self.check_portable(variables, [D, A, C], DEFAULT), 1)
        self.assertEqual(self.check_portable(variables, [A, C, B], (8, 16, 17, 32, 64)), 2)
        self.assertEqual(self.check_portable(variables, [("shl", B, 1)], DEFAULT), 0)
        self.assertEqual(count_portable_groupings(variables, [A, C, B]), 1)

    def test_models_with_equal_widths(self):
        variables = [("a", "uint", 10, 20), ("b", "long", -9, 9), ("c", "long", 0, 9)]
        self.assertEqual(self.check_portable(variables, [A, B], DEFAULT), 0)
        self.assertEqual(self.check_portable(variables, [A, C, B], DEFAULT), 0)
        self.assertEqual(self.check_portable(variables, [("cast", "wide", A), B], (8, 16, 16, 32, 33)), 1)

    def test_types_of_literals(self):
        variables = [("a", "int", 0, 1), ("b", "int", -1, -1)]
        literal = ("lit", 2 ** 16 - 1, "")
        # With an `int` of 17 bits the literal is an `int`, and one more is too much.
        self.assertEqual(self.check_portable(variables, [A, literal], DEFAULT), 0)
        self.assertEqual(self.check_portable(variables, [literal, A, B], DEFAULT), 1)
        self.assertEqual(self.check_portable(variables, [B, literal, A], DEFAULT), 1)
        self.assertEqual(self.check_portable(variables, [B, literal, A, ("lit", 1, "l")], DEFAULT), 3)

    def test_no_model_admits(self):
        for count, ways in ((1, 1), (2, 1), (3, 2), (4, 5), (5, 14)):
            terms = [("shl", ("lit", 10 ** 40, ""), 200)] + [ONE] * (count - 1)
            self.assertEqual(self.check_portable([], terms, DEFAULT), ways)

    def test_random_terms(self):
        rng = random.Random(142)
        shares = []
        for _ in range(120):
            reach = rng.choice([3, 40, 30000])
            variables = random_variables(rng, 5, ("char", "uchar", "short", "int", "long", "int"), reach)
            variables = [row[:2] + (max(row[2], 0), max(row[3], 0)) if row[1] == "uchar" else row for row in variables]
            names = [row[0] for row in variables]
            terms = [random_tree(rng, names, rng.choice([1, 1, 1, 2])) for _ in range(rng.randrange(1, 6))]
            minima = rng.choice([LEAST, DEFAULT, (2, 3, 3, 4, 5), (8, 16, 17, 17, 18), (126, 126, 127, 127, 128)])
            shares.append(self.check_portable(variables, terms, minima) * 100 // len(all_groupings(terms)))
        self.assertGreater(len([share for share in shares if 0 < share < 100]), 2)
        self.assertIn(0, shares)
        self.assertIn(100, shares)


class TenTerms(Groupings):
    def test_all_are_clean(self):
        ways = comb(18, 9) // 10
        terms = [("lit", number, "") for number in range(6)] + [A, B, C, D]
        variables = [(name, "int", -9, 9) for name in "abcd"]
        for model in (LP32, ((8, 16, 32, 64, 128), "u")):
            self.assertEqual(count_groupings(model, variables, terms), ways)
            self.assertEqual(nth_grouping(model, variables, terms, 0),
                             ("add", terms[0], nth_grouping(model, variables, terms[1:], 0)))
            last = terms[0]
            for term in terms[1:]:
                last = ("add", last, term)
            self.assertEqual(nth_grouping(model, variables, terms, ways - 1), last)
            self.assertEqual(raised(nth_grouping, model, variables, terms, ways), (InvalidNumber, ways))
        for minima in (LEAST, DEFAULT):
            self.assertIn(count_portable_groupings(variables, terms, minima), range(ways + 1))
        self.assertEqual(count_portable_groupings(variables, terms), ways)

    def test_literals_at_ten_terms(self):
        variables = [(name, "char", 0, 1) for name in "abcd"]
        terms = [A, B, C, D] + [("lit", 2 ** power, "") for power in (10, 30, 50, 70, 90, 110)]
        for minima in (LEAST, DEFAULT, (126, 127, 128, 128, 128)):
            self.assertIn(count_portable_groupings(variables, terms, minima), range(1, 4863))
        self.assertEqual(count_groupings(((128,) * 5, "s"), variables, terms), 4862)

    def test_every_number(self):
        variables = [(name, "int", -40, 40) for name in "ab"] + [(name, "int", 0, 60) for name in "cd"]
        terms = [A, C, ("neg", D), B, ("lit", 60, ""), ("lit", 1, "l"), ("neg", ("lit", 90, ""))]
        self.assertIn(self.check(((8, 8, 8, 9, 9), "s"), variables, terms), range(1, 132))


class Errors(unittest.TestCase):
    UNHELD = [("a", "uint", -1, 0), ("b", "int", 0, 1), ("c", "int", 0, 1)]
    HELD = [("a", "int", -1, 0), ("b", "int", 0, 1), ("c", "int", 0, 1)]

    def check(self, wanted, model, variables, terms, minima=DEFAULT):
        """Checks all three; a wanted error of models alone does not concern the third one."""
        with self.subTest(wanted=wanted, terms=terms):
            self.assertEqual(raised(count_groupings, model, variables, terms), wanted)
            self.assertEqual(raised(nth_grouping, model, variables, terms, -1), wanted)
            if wanted[0] not in (InvalidModel, NotAdmitted):
                self.assertEqual(raised(count_portable_groupings, variables, terms, minima), wanted)

    def test_order(self):
        twice = self.UNHELD + [("b", "int", 0, 1)]
        self.check((InvalidModel, 2), ((8, 16, 15, 32, 64), "s"), twice, [])
        self.check((InvalidVariables, 3), LP32, twice, [], ())
        self.check((InvalidNumber, 0), LP32, self.UNHELD, [], ())
        self.check((InvalidExpression, ()), LP32, self.UNHELD, [("neg",)], ())
        self.check((NotAdmitted, ("variable", "a")), LP32, self.UNHELD, [B, ("lit", 10 ** 40, "")])
        self.check((NotAdmitted, ("literal", (1,))), LP32, self.HELD, [B, ("lit", 10 ** 40, "")])
        self.check((NotAdmitted, ("literal", (0, 1, 0))), LP32, self.HELD, [B, ("neg", ("lit", 10 ** 40, "")), C])
        self.assertEqual(raised(nth_grouping, LP32, self.HELD, [B, C], -1), (InvalidNumber, -1))
        self.assertEqual(raised(count_portable_groupings, self.UNHELD, [B, C], ()), (InvalidModel, None))

    def test_paths(self):
        bad = ("neg", ("add", A, ("var", "nobody")))
        # Three terms stand at (0, 0), (0, 1) and (1,) in the expression that adds them from the left.
        for at, path in ((0, (0, 0)), (1, (0, 1)), (2, (1,))):
            terms = [B, C]
            terms.insert(at, bad)
            self.check((InvalidExpression, path + (0, 1)), LP32, self.HELD, terms)
        self.check((InvalidExpression, (0, 1)), LP32, self.HELD, [bad])
        self.check((InvalidExpression, (0, 0, 1)), LP32, self.HELD, [bad, B])
        self.check((InvalidExpression, (0, 0, 0, 0)), LP32, self.HELD, [("lit", -1, ""), ONE, ONE, ONE, ONE])
        self.check((InvalidExpression, (0, 0, 1)), LP32, self.HELD, [ONE, ("lit", -1, ""), ("neg",), ONE])

    def test_a_name_that_two_terms_use(self):
        self.check((InvalidExpression, (1,)), LP32, self.HELD, [A, A])
        self.check((InvalidExpression, (0, 1)), LP32, self.HELD, [A, A, A])
        self.check((InvalidExpression, (1, 0)), LP32, self.HELD, [A, B, ("neg", A)])
        self.check((InvalidExpression, (0, 0, 1, 0)), LP32, self.HELD, [A, ("neg", A), B, C])

    def test_minima(self):
        for minima, index in (((), None), ((2,) * 4, None), ((2,) * 6, None), ((1, 2, 2, 2, 2), 0),
                              ((2, 2, 2, 2, 129), 4), ((8, 16, 15, 32, 64), 2)):
            self.assertEqual(raised(count_portable_groupings, self.HELD, [A, B], minima), (InvalidModel, index))


class Examples(unittest.TestCase):
    def test_example_of_the_document(self):
        variables = [('a', 'int', 0, 100), ('b', 'int', 0, 100), ('c', 'int', -100, -90)]
        terms = [('var', 'a'), ('var', 'b'), ('var', 'c')]
        self.assertEqual(
            [count_groupings(((8, 8, 8, 16, 16), 's'), variables, terms),
             nth_grouping(((8, 8, 8, 16, 16), 's'), variables, terms, 0), count_portable_groupings(variables, terms)],
            [1, ('add', ('var', 'a'), ('add', ('var', 'b'), ('var', 'c'))), 2])


if __name__ == "__main__":
    unittest.main()
