"""The whole program: answers of different files that must agree, for drawn expressions and their texts."""

import random
import unittest

from castforms.casting import count_ways, fewest_casts, with_casts
from castforms.choosing import cheapest_types
from castforms.clean import first_unclean, is_clean
from castforms.comparing import clean_wherever, parting_model
from castforms.expressions import admission, nodes, type_of
from castforms.groupings import count_groupings, nth_grouping
from castforms.models import common, holds, width
from castforms.mixed import count_wrong, first_wrong
from castforms.portable import counter_model, is_portable
from castforms.projects import Project
from castforms.ranges import bounds, outcomes
from castforms.readings import read_expression, read_model, read_variables
from castforms.runs import mathematical, run
from castforms.sums import count_beyond
from castforms.texts import show_expression, show_model, show_variables
from support import CONDITIONS, KINDS, all_models, all_nodes, random_tree, random_variables

MINIMA = [(2, 2, 2, 2, 2), (8, 16, 16, 32, 64), (8, 16, 32, 64, 64), (3, 4, 4, 6, 9)]


class Drawn(unittest.TestCase):
    def cases(self, seed, many, admitted=True):
        """Tuples of a model, variables and an expression; with large numbers, too."""
        rng = random.Random(seed)
        models = all_models((2,) * 5, 6) + [((8, 16, 16, 32, 64), "s"), ((8, 16, 32, 64, 64), "u"), ((16,) * 5, "u"),
                                            ((8, 8, 16, 16, 32), "s"), ((8, 16, 32, 32, 128), "s")] * 40
        found = 0
        while found < many:
            model = rng.choice(models)
            reach = rng.choice([3, 6, 200, 60000])
            variables = random_variables(rng, rng.randrange(5), reach=reach)
            names = [row[0] for row in variables]
            tree = random_tree(rng, names, rng.randrange(3, 16), "EEEC"[found % 4], (0, 1, 2, 3, 5, 7, reach))
            if not admitted or admission(model, variables, tree) is None:
                found += 1
                yield model, variables, tree

    def values(self, rng, variables):
        return {name: rng.randrange(low, high + 1) for name, _, low, high in variables}


class Texts(Drawn):
    def test_expressions_and_their_texts(self):
        for model, variables, tree in self.cases(231, 250):
            read = read_expression(show_expression(tree))
            self.assertEqual(read, tree)
            again = read_variables(show_variables(variables))
            self.assertEqual(again, variables)
            same = read_model(show_model(model))
            self.assertEqual(same, model)
            answers = []
            for given in ((model, variables, tree), (same, again, read)):
                answers.append([type_of(*given), is_clean(*given), counter_model(*given[1:]), cheapest_types(*given)])
                if tree[0] in CONDITIONS:
                    answers[-1].append(outcomes(*given[1:]))
                else:
                    answers[-1].extend([bounds(*given[1:]), fewest_casts([given[0]], *given[1:])])
            self.assertEqual(answers[0], answers[1])

    def test_texts_of_results(self):
        """What functions return may be shown and read again."""
        for model, variables, tree in self.cases(232, 150):
            if tree[0] not in CONDITIONS:
                chosen = with_casts([model], variables, tree)
                if chosen is not None:
                    self.assertEqual(read_expression(show_expression(chosen)), chosen)
            for minima in MINIMA:
                found = counter_model(variables, tree, minima)
                if found is not None:
                    self.assertEqual(read_model(show_model(found)), found)


class Agreement(Drawn):
    def test_types_that_are_chosen(self):
        held = 0
        for model, variables, tree in self.cases(233, 300):
            kinds = cheapest_types(model, variables, tree)
            if kinds is None:
                self.assertFalse(is_clean(model, variables, tree))
                continue
            typed = [(name, kind, low, high) for (name, _, low, high), kind in zip(variables, kinds)]
            self.assertIsNone(admission(model, typed, tree))
            self.assertTrue(is_clean(model, typed, tree))
            self.assertIsNone(first_unclean(model, typed, tree))
            self.assertEqual(cheapest_types(model, typed, tree), kinds)
            held += 1
            if is_clean(model, variables, tree):
                self.assertLessEqual(sum(width(model, kind) for kind in kinds),
                                     sum(width(model, row[1]) for row in variables))
        self.assertGreater(held, 100)

    def test_casts(self):
        rng = random.Random(234)
        found = []
        for model, variables, tree in self.cases(235, 400):
            if tree[0] in CONDITIONS:
                continue
            others = [other for other in rng.sample(all_models((2,) * 5, 7), 5)
                      if admission(other, variables, tree) is None]
            models = [model] + others[:3]
            fewest, chosen = fewest_casts(models, variables, tree), with_casts(models, variables, tree)
            found.append(fewest)
            self.assertIs(fewest == 0, all(is_clean(one, variables, tree) for one in models))
            for alone in models:
                self.assertTrue(fewest is None or fewest_casts([alone], variables, tree) <= fewest)
            if chosen is None:
                self.assertEqual(count_ways(models, variables, tree), 0)
                continue
            self.assertEqual(len(list(nodes(variables, chosen))), len(all_nodes(tree)) + fewest)
            self.assertTrue(all(is_clean(one, variables, chosen) for one in models))
            self.assertEqual((fewest_casts(models, variables, chosen), count_ways(models, variables, chosen)), (0, 1))
            self.assertEqual(bounds(variables, chosen), bounds(variables, tree))
        for wanted in (0, 1, None):
            self.assertGreater(found.count(wanted), 15)

    def test_casts_and_values(self):
        """Clean in two models, an expression has the same value in both."""
        rng = random.Random(236)
        for model, variables, tree in self.cases(237, 200):
            if tree[0] not in CONDITIONS:
                chosen = with_casts([model], variables, tree)
                for _ in range(3):
                    values = self.values(rng, variables)
                    wanted = mathematical(variables, tree, values)
                    if chosen is not None:
                        self.assertEqual(run(model, variables, chosen, values), ("value", wanted))

    def test_projects(self):
        rng = random.Random(238)
        for model, variables, tree in self.cases(239, 120, False):
            project = Project(variables)
            project.add(tree, ("lit", 5, ""))
            project.add(random_tree(rng, [row[0] for row in variables], 6))
            trees = project.expressions
            wanted = []
            for one in trees:
                reason = admission(model, variables, one)
                wanted.append(is_clean(model, variables, one) if reason is None else reason)
            self.assertEqual(list(project.verdicts(model)), wanted)
            self.assertEqual(project.counter_models(), [counter_model(variables, one) for one in trees])
            for minima in MINIMA:
                found = project.counter_models(minima)
                self.assertEqual(found, [counter_model(variables, one, minima) for one in trees])
                self.assertEqual([one is None for one in found], [is_portable(variables, one, minima) for one in trees])
                for one, counter in zip(trees, found):
                    if counter is not None:
                        self.assertIs(list(project.verdicts(counter))[trees.index(one)], False)
            texts = [show_expression(one) for one in trees]
            self.assertEqual(Project.of_texts(show_variables(variables), texts), project)

    def test_mixed_comparisons(self):
        """A comparison of two variables is clean if and only if no pair of their values goes wrong."""
        for model in random.Random(240).sample(all_models((2,) * 5, 4), 12):
            for first in KINDS:
                for second in KINDS:
                    pair = first_wrong(model, first, second)
                    self.assertIs(pair is None, count_wrong(model, first, second) == 0)
                    if pair is not None:
                        variables = [("a", first, pair[0], pair[0]), ("b", second, pair[1], pair[1])]
                        less = ("less", ("var", "a"), ("var", "b"))
                        self.assertFalse(is_clean(model, variables, less))
                        self.assertNotEqual(run(model, variables, less, {"a": pair[0], "b": pair[1]}),
                                            ("value", mathematical(variables, less, {"a": pair[0], "b": pair[1]})))

    def test_sums(self):
        """A sum of variables of one type is clean if and only if no way to choose their values goes beyond it."""
        rng = random.Random(241)
        for model in rng.sample(all_models((2,) * 5, 8), 300):
            kind = rng.choice(["int", "uint", "long", "ulong", "wide", "uwide"])
            variables = []
            for name in "abc":
                low = rng.randrange(0, 6) if kind[0] == "u" else rng.randrange(-8, 6)
                variables.append((name, kind, low, low + rng.randrange(8)))
            if all(holds(model, kind, end) for row in variables for end in row[2:]):
                terms = [("var", name) for name in "abc"]
                beyond = count_beyond(model, kind, [row[2:] for row in variables])
                self.assertEqual(common(model, kind, kind), kind)
                if count_groupings(model, variables, terms):
                    self.assertEqual(beyond, 0)
                    self.assertTrue(is_clean(model, variables, nth_grouping(model, variables, terms, 0)))
                elif beyond == 0:
                    pairs = [count_beyond(model, kind, [row[2:] for row in variables[at:at + 2]]) for at in (0, 1)]
                    self.assertGreater(min(pairs), 0)

    def test_comparing(self):
        for model, variables, tree in self.cases(242, 60, False):
            for minima in MINIMA[:2]:
                one = ("lit", 1, "")
                self.assertIs(clean_wherever(variables, tree, one, minima), is_portable(variables, tree, minima))
                self.assertEqual(parting_model(variables, tree, one, minima), counter_model(variables, tree, minima))


if __name__ == "__main__":
    unittest.main()
