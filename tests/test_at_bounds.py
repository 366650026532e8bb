"""Promise 2 at its bounds: each call answers, and soon."""

import random
import unittest

from castforms.casting import count_ways, fewest_casts, with_casts
from castforms.choosing import cheapest_types
from castforms.clean import first_unclean, is_clean
from castforms.comparing import clean_wherever, parting_model
from castforms.counting import count_models, nth_clean_model
from castforms.errors import NothingToUndo, Unreadable
from castforms.expressions import admission, nodes
from castforms.groupings import count_groupings, count_portable_groupings, nth_grouping
from castforms.mixed import count_wrong, first_wrong
from castforms.models import limits
from castforms.portable import counter_model, is_portable, least_clean_model
from castforms.projects import Project
from castforms.ranges import bounds, outcomes
from castforms.readings import read_expression, read_variables
from castforms.runs import mathematical, run, steps
from castforms.sums import count_beyond
from castforms.texts import show_expression, show_variables
from support import CONDITIONS, KINDS, exact_by_promise, is_step_clean, large_case, literals_have_types, raised
from support import random_tree

WIDE_KINDS = ("int", "long", "wide")
LEAST, DEFAULT = (2, 2, 2, 2, 2), (8, 16, 16, 32, 64)
WIDEST = [((128,) * 5, "s"), ((2, 3, 126, 127, 128), "u"), ((2, 2, 128, 128, 128), "s"), ((8, 16, 32, 64, 128), "u")]


class Large(unittest.TestCase):
    def test_size_of_the_cases(self):
        rng = random.Random(20)
        for form in "EC":
            variables, tree = large_case(rng, form)
            found = list(nodes(variables, tree))
            self.assertEqual((len(found), len(variables)), (24, 8))
            self.assertLessEqual(len([node for _, node in found if node[0] == "lit"]), 6)

    def test_mathematical_values(self):
        rng = random.Random(21)
        for number in range(300):
            variables, tree = large_case(rng, "EEEC"[number % 4])
            for at in (2, 3):
                values = {row[0]: row[at] for row in variables}
                value = mathematical(variables, tree, values)
                self.assertEqual(value, exact_by_promise(tree, values))
                if tree[0] in CONDITIONS:
                    self.assertTrue(outcomes(variables, tree)[0 if value else 1])
                else:
                    low, high = bounds(variables, tree)
                    self.assertTrue(low <= value <= high)

    def test_runs_and_clean_steps(self):
        rng = random.Random(22)
        admitted = 0
        for number in range(300):
            # Numbers that 128 bits hold, so that some models admit them.
            variables, tree = large_case(rng, "EEEC"[number % 4], reach=10 ** 37, kinds=WIDE_KINDS)
            for model in WIDEST:
                if admission(model, variables, tree) is None:
                    admitted += 1
                    self.check(model, variables, tree)
        self.assertGreater(admitted, 300)

    def check(self, model, variables, tree):
        found = first_unclean(model, variables, tree)
        self.assertIs(is_clean(model, variables, tree), found is None)
        for values in ({row[0]: row[2] for row in variables}, {row[0]: row[3] for row in variables}):
            unclean = [step for step in steps(model, variables, tree, values) if not is_step_clean(tree, values, step)]
            if found is None:
                self.assertEqual(unclean, [])
                self.assertEqual(run(model, variables, tree, values), ("value", mathematical(variables, tree, values)))
        if found is not None:
            taken = [step for step in steps(model, variables, tree, found[2]) if step[:2] == found[:2]]
            self.assertFalse(is_step_clean(tree, found[2], taken[0]))

    def test_deepest_shifts(self):
        tree = ("var", "x")
        for _ in range(23):
            tree = ("shl", tree, 200)
        far = 10 ** 40
        self.assertEqual(bounds([("x", "int", -far, far)], tree), (-far * 2 ** 4600, far * 2 ** 4600))
        self.assertEqual(first_unclean(WIDEST[0], [("x", "int", 0, 1)], tree)[:2], ((0,) * 22, "result"))


class AllModels(unittest.TestCase):
    def cases(self, seed, many=24, literals=6):
        rng = random.Random(seed)
        for number in range(80):
            reach, kinds = rng.choice([(10 ** 40, tuple(KINDS)), (10 ** 37, WIDE_KINDS), (10 ** 6, tuple(KINDS))])
            yield large_case(rng, "EEEC"[number % 4], many, literals, reach, kinds)

    def most_classes(self):
        """An expression whose literals part the models into as many classes as six literals can."""
        variables = [(name, "char" if name == "a" else "short", 0, 3) for name in "abcdefgh"]
        tree = ("var", "a")
        for name in "bcdef":
            tree = ("add", tree, ("var", name))
        for power in (10, 30, 50, 70, 90, 110):
            tree = ("add", tree, ("lit", 2 ** power, ""))
        return variables, tree

    def test_portable(self):
        for variables, tree in list(self.cases(23)) + [self.most_classes()]:
            for minima in (LEAST, DEFAULT):
                counter, clean = counter_model(variables, tree, minima), least_clean_model(variables, tree, minima)
                self.assertIs(is_portable(variables, tree, minima), counter is None)
                for model in (counter, clean):
                    if model is not None:
                        self.assertIsNone(admission(model, variables, tree))
                        self.assertIs(is_clean(model, variables, tree), model == clean)

    def test_counting(self):
        for variables, tree in list(self.cases(24)) + [self.most_classes()]:
            admitted, clean = count_models(variables, tree, 128)
            self.assertEqual(admitted == clean, is_portable(variables, tree, LEAST))
            self.assertEqual(clean == 0, least_clean_model(variables, tree, LEAST) is None)
            if clean > 0:
                self.assertEqual(nth_clean_model(variables, tree, 128, 0), least_clean_model(variables, tree, LEAST))
                for number in (clean // 2, clean - 1):
                    self.assertTrue(is_clean(nth_clean_model(variables, tree, 128, number), variables, tree))

    def test_comparing(self):
        rng = random.Random(25)
        found = []
        for variables, first in self.cases(26, 12, 3):
            numbers = [row[3] for row in variables if row[3] >= 0] + [5]
            second = random_tree(rng, [row[0] for row in variables], 12, "E", numbers, (0, 1, 7, 30))
            for one, other in ((first, second), (second, first), (first, ("lit", 1, ""))):
                for minima in (LEAST, DEFAULT):
                    model = parting_model(variables, one, other, minima)
                    self.assertIs(clean_wherever(variables, one, other, minima), model is None)
                    found.append(model)
                    if model is not None:
                        self.assertTrue(is_clean(model, variables, other))
                        self.assertFalse(is_clean(model, variables, one))
        self.assertGreater(len([model for model in found if model is not None]), 5)

    def test_ten_terms(self):
        rng = random.Random(27)
        for number in range(40):
            reach = rng.choice([10 ** 40, 10 ** 18, 10 ** 4])
            variables, _ = large_case(rng, reach=reach, kinds=WIDE_KINDS)
            terms = [("var", row[0]) for row in variables[:4]]
            terms += [("lit", rng.randrange(reach), rng.choice(["", "l", "u"])) for _ in range(6)]
            rng.shuffle(terms)
            for minima in (LEAST, DEFAULT):
                self.assertIn(count_portable_groupings(variables, terms, minima), range(4863))
            if admission(WIDEST[0], variables, ("var", "a")) is None and reach < 10 ** 37:
                clean = count_groupings(WIDEST[0], variables, terms)
                if clean > 0:
                    last = nth_grouping(WIDEST[0], variables, terms, clean - 1)
                    self.assertTrue(is_clean(WIDEST[0], variables, last))


class LargeCasts(unittest.TestCase):
    MODELS = WIDEST + [((16, 16, 16, 32, 128), "u"), ((8, 16, 16, 128, 128), "s"), ((16, 16, 64, 64, 128), "u"),
                       ((2, 2, 2, 2, 128), "s")]

    def test_drawn(self):
        rng = random.Random(28)
        found = []
        while len(found) < 150:
            models = [rng.choice(self.MODELS) for _ in range(4)]
            variables, tree = large_case(rng, reach=rng.choice([10 ** 37, 10 ** 18, 10 ** 4]))
            # Some ranges are made small, so that more models admit the variables.
            variables = [row if rng.random() < 0.3 else row[:2] + (0, 1) for row in variables]
            if any(admission(model, variables, tree) is not None for model in models):
                continue
            found.append(fewest_casts(models, variables, tree))
            self.check(models, variables, tree, found[-1])
        for wanted in (0, 1, 2, None):
            self.assertIn(wanted, found)

    def check(self, models, variables, tree, fewest):
        ways, chosen = count_ways(models, variables, tree), with_casts(models, variables, tree)
        self.assertEqual(fewest == 0, all(is_clean(model, variables, tree) for model in models))
        self.assertEqual((fewest is None, fewest is None), (ways == 0, chosen is None))
        if fewest == 0:
            self.assertEqual((ways, chosen), (1, tree))
        if chosen is not None:
            self.assertEqual(len(list(nodes(variables, chosen))), 24 + fewest)
            for model in models:
                self.assertTrue(is_clean(model, variables, chosen))

    def test_many_different_types(self):
        """Literals whose types differ from model to model, between variables of all types."""
        models = [((8, 16, 16, 64, 128), "s"), ((16, 16, 32, 32, 128), "u"), ((16, 16, 16, 16, 128), "u"),
                  ((8, 8, 16, 128, 128), "s")]
        variables = [("a", "char", 0, 9), ("b", "uchar", 0, 9), ("c", "ushort", 0, 9), ("d", "uint", 0, 9),
                     ("e", "long", -9, 9), ("f", "ulong", 0, 9)]
        leaves = [("var", row[0]) for row in variables]
        leaves += [("lit", 2 ** 15, ""), ("lit", 2 ** 16, "u"), ("lit", 2 ** 31, "l"), ("lit", 2 ** 32, "ul"),
                   ("lit", 2 ** 63, ""), ("lit", 1, "uw")]
        rng = random.Random(29)
        for word in ("add", "sub", "mul"):
            for _ in range(20):
                rng.shuffle(leaves)
                tree = leaves[0]
                for leaf in leaves[1:]:
                    tree = (word, tree, leaf) if rng.random() < 0.5 else (word, leaf, tree)
                tree = ("neg", tree)
                self.assertEqual(len(list(nodes(variables, tree))), 24)
                self.check(models, variables, tree, fewest_casts(models, variables, tree))

    def test_deepest(self):
        tree = ("lit", 1, "u")
        for _ in range(23):
            tree = ("neg", tree)
        self.assertEqual(fewest_casts(WIDEST[:1], [], tree), 1)
        for models in (WIDEST, WIDEST[:1], WIDEST[1:] * 2):
            self.check(models[:4], [], tree, fewest_casts(models[:4], [], tree))


class LargeNumbers(unittest.TestCase):
    def test_mixed(self):
        for model in WIDEST:
            for first in KINDS:
                for second in KINDS:
                    pairs = 1
                    for kind in (first, second):
                        pairs *= limits(model, kind)[1] - limits(model, kind)[0] + 1
                    wrong = count_wrong(model, first, second)
                    self.assertTrue(0 <= wrong < pairs)
                    self.assertIs(first_wrong(model, first, second) is None, wrong == 0)

    def test_sums(self):
        rng = random.Random(30)
        for _ in range(500):
            ranges = [tuple(sorted(rng.randrange(-10 ** 40, 10 ** 40 + 1) for _ in "lh")) for _ in range(8)]
            ways = 1
            for low, high in ranges:
                ways *= high - low + 1
            beyond = [count_beyond(WIDEST[1], kind, ranges) for kind in ("int", "long", "wide")]
            self.assertTrue(0 <= beyond[2] <= beyond[1] <= beyond[0] <= ways)


class LargeTypes(unittest.TestCase):
    def test_cheapest_types(self):
        rng = random.Random(31)
        found = []
        for number in range(300):
            variables, tree = large_case(rng, "EEEC"[number % 4], reach=rng.choice([10 ** 37, 10 ** 18, 10 ** 4]))
            for model in WIDEST:
                if literals_have_types(model, tree):
                    found.append(cheapest_types(model, variables, tree))
                    if found[-1] is not None:
                        typed = [(row[0], kind, row[2], row[3]) for row, kind in zip(variables, found[-1])]
                        self.assertTrue(is_clean(model, typed, tree))
        self.assertIn(None, found)
        self.assertGreater(len([kinds for kinds in found if kinds is not None]), 50)

    def test_ranges_that_no_type_holds(self):
        rng = random.Random(32)
        for _ in range(50):
            variables, tree = large_case(rng)
            variables[rng.randrange(8)] = ("z", "char", -10 ** 40, 10 ** 40)
            names = [row[0] for row in variables]
            tree = random_tree(rng, names, 24, "E", (0, 1, 2), (0, 1, 200))
            self.assertIsNone(cheapest_types(WIDEST[0], variables, tree))


class LargeTexts(unittest.TestCase):
    def test_expressions_and_variables(self):
        rng = random.Random(33)
        for number in range(300):
            variables, tree = large_case(rng, "EEEC"[number % 4])
            self.assertEqual(read_expression(show_expression(tree)), tree)
            self.assertEqual(read_variables(show_variables(variables)), variables)

    def test_texts_of_2000_characters(self):
        rng = random.Random(34)
        signs = "()  xy50ulneg+-*<>?:andcastint"
        readable = 0
        for _ in range(200):
            text = "(" * 99 + "x" + "u" * 1900
            self.assertEqual(raised(read_expression, text), (Unreadable, text))
            text = "".join(rng.choice(signs) for _ in range(2000))
            self.assertEqual(raised(read_expression, text), (Unreadable, text))
            self.assertEqual(raised(read_variables, text), (Unreadable, text))
            tree = random_tree(rng, list("abcdefgh") * 40, 380, numbers=(5,))
            text = show_expression(tree)
            if len(text) <= 2000:
                readable += 1
                self.assertEqual(read_expression(text), tree)
        self.assertGreater(readable, 20)


class LargeProjects(unittest.TestCase):
    def test_hundred_calls(self):
        rng = random.Random(35)
        variables, _ = large_case(rng, reach=10 ** 37, kinds=WIDE_KINDS)
        project = Project(variables)
        names, states = [row[0] for row in variables], [[]]
        for call in range(90):
            if call % 3 == 2:
                project.remove(rng.randrange(len(project.expressions)))
            else:
                project.add(*[random_tree(rng, list(names), 24, "E", (0, 1, 10 ** 37)) for _ in range(2)])
            states.append(project.expressions)
        for model in WIDEST:
            verdicts = list(project.verdicts(model))
            self.assertEqual(len(verdicts), 90)
        self.assertEqual(len(project.counter_models()), 90)
        texts = [show_expression(tree) for tree in project.expressions]
        self.assertEqual(Project.of_texts(show_variables(variables), texts), project)
        while len(states) > 1:
            states.pop()
            project.undo()
            self.assertEqual(project.expressions, states[-1])
        self.assertEqual(raised(project.undo), (NothingToUndo, 0))

    def test_many_expressions_at_once(self):
        project = Project([("x", "int", 0, 9)])
        for _ in range(50):
            project.add(*[("neg", ("var", "x"))] * 20)
        self.assertEqual(len(project.expressions), 1000)
        self.assertEqual(list(project.verdicts(WIDEST[0])), [True] * 1000)


if __name__ == "__main__":
    unittest.main()
