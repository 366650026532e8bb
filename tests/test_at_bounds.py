"""Promise 2 at its bounds: each call answers, and soon."""

import random
import unittest

from castforms.clean import first_unclean, is_clean
from castforms.expressions import admission, nodes
from castforms.ranges import bounds, outcomes
from castforms.runs import mathematical, run, steps
from support import CONDITIONS, exact_by_promise, is_step_clean, large_case

WIDE_KINDS = ("int", "long", "wide")
WIDEST = [((128,) * 5, "s"), ((2, 3, 126, 127, 128), "u"), ((2, 2, 128, 128, 128), "s"), ((8, 16, 32, 64, 128), "u")]


class Large(unittest.TestCase):
    def test_size_of_the_cases(self):
        rng = random.Random(20)
        for form in "EC":
            variables, tree = large_case(rng, form)
            found = list(nodes(variables, tree))
            self.assertEqual((len(found), len(variables)), (24, 8))
            self.assertLessEqual(len([node for _, node in found if node[0] == "lit"]), 6)

    def test_mathematical_values(self):
        rng = random.Random(21)
        for number in range(300):
            variables, tree = large_case(rng, "EEEC"[number % 4])
            for at in (2, 3):
                values = {row[0]: row[at] for row in variables}
                value = mathematical(variables, tree, values)
                self.assertEqual(value, exact_by_promise(tree, values))
                if tree[0] in CONDITIONS:
                    self.assertTrue(outcomes(variables, tree)[0 if value else 1])
                else:
                    low, high = bounds(variables, tree)
                    self.assertTrue(low <= value <= high)

    def test_runs_and_clean_steps(self):
        rng = random.Random(22)
        admitted = 0
        for number in range(300):
            # Numbers that 128 bits hold, so that some models admit them.
            variables, tree = large_case(rng, "EEEC"[number % 4], reach=10 ** 37, kinds=WIDE_KINDS)
            for model in WIDEST:
                if admission(model, variables, tree) is None:
                    admitted += 1
                    self.check(model, variables, tree)
        self.assertGreater(admitted, 300)

    def check(self, model, variables, tree):
        found = first_unclean(model, variables, tree)
        self.assertIs(is_clean(model, variables, tree), found is None)
        for values in ({row[0]: row[2] for row in variables}, {row[0]: row[3] for row in variables}):
            unclean = [step for step in steps(model, variables, tree, values) if not is_step_clean(tree, values, step)]
            if found is None:
                self.assertEqual(unclean, [])
                self.assertEqual(run(model, variables, tree, values), ("value", mathematical(variables, tree, values)))
        if found is not None:
            taken = [step for step in steps(model, variables, tree, found[2]) if step[:2] == found[:2]]
            self.assertFalse(is_step_clean(tree, found[2], taken[0]))

    def test_deepest_shifts(self):
        tree = ("var", "x")
        for _ in range(23):
            tree = ("shl", tree, 200)
        far = 10 ** 40
        self.assertEqual(bounds([("x", "int", -far, far)], tree), (-far * 2 ** 4600, far * 2 ** 4600))
        self.assertEqual(first_unclean(WIDEST[0], [("x", "int", 0, 1)], tree)[:2], ((0,) * 22, "result"))


if __name__ == "__main__":
    unittest.main()
