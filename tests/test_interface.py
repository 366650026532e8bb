"""Promise 2 and the first paragraph of the interface: names, arguments, what calls leave behind."""

import copy
import inspect
import sys
import unittest

from castforms import clean, errors, expressions, models, ranges, runs
from castforms.clean import first_unclean, is_clean
from castforms.errors import InvalidExpression, InvalidModel, InvalidValues, InvalidVariables, NotAdmitted
from castforms.expressions import admission, nodes, type_of
from castforms.ranges import bounds, outcomes
from castforms.runs import mathematical, run, steps
from support import CASES, CONDITIONS, LP32, raised, untouched

FUNCTIONS = [
    (models, "width", ["model", "kind"]), (models, "limits", ["model", "kind"]),
    (models, "holds", ["model", "kind", "number"]), (models, "promoted", ["model", "kind"]),
    (models, "converted", ["model", "kind", "number"]), (models, "common", ["model", "first", "second"]),
    (expressions, "nodes", ["variables", "expression"]),
    (expressions, "admission", ["model", "variables", "expression"]),
    (expressions, "type_of", ["model", "variables", "expression"]),
    (runs, "run", ["model", "variables", "expression", "values"]),
    (runs, "steps", ["model", "variables", "expression", "values"]),
    (runs, "mathematical", ["variables", "expression", "values"]),
    (ranges, "bounds", ["variables", "expression"]), (ranges, "outcomes", ["variables", "condition"]),
    (clean, "is_clean", ["model", "variables", "expression"]),
    (clean, "first_unclean", ["model", "variables", "expression"]),
]
CLASSES = [
    "CastError", "InvalidModel", "InvalidType", "InvalidVariables", "InvalidExpression", "InvalidValues",
    "InvalidNumber", "NotAdmitted", "NothingToUndo", "Unreadable",
]
X = ("var", "x")
VARIABLES = [("x", "ushort", 0, 60000), ("y", "long", -9, 9)]
def listed(model, variables, expression):
    return list(nodes(variables, expression))


def bounded(model, variables, expression):
    return (outcomes if expression[0] in CONDITIONS else bounds)(variables, expression)


def ran(model, variables, expression, values):
    """All that the files of runs say of a run."""
    return [run(model, variables, expression, values), list(steps(model, variables, expression, values)),
            mathematical(variables, expression, values)]


CHECKED = [listed, admission, type_of, bounded, is_clean, first_unclean]


class Interface(unittest.TestCase):
    def test_functions_stand_in_their_files(self):
        for module, name, parameters in FUNCTIONS:
            with self.subTest(name=name):
                function = getattr(module, name)
                self.assertTrue(inspect.isfunction(function))
                self.assertEqual(function.__module__, module.__name__)
                self.assertEqual(function.__name__, name)
                self.assertEqual(list(inspect.signature(function).parameters), parameters)
                for parameter in inspect.signature(function).parameters.values():
                    self.assertEqual(parameter.kind, parameter.POSITIONAL_OR_KEYWORD)
                    self.assertEqual(parameter.default, parameter.empty)

    def test_classes_stand_in_their_file(self):
        for name in CLASSES:
            self.assertEqual(getattr(errors, name).__module__, "castforms.errors")
            self.assertEqual("__init__" in vars(getattr(errors, name)), name != "CastError")

    def test_by_name(self):
        tree = ("add", X, ("var", "y"))
        self.assertEqual(list(nodes(expression=tree, variables=VARIABLES)), list(nodes(VARIABLES, tree)))
        self.assertIsNone(admission(expression=tree, variables=VARIABLES, model=LP32))
        self.assertEqual(admission(LP32, expression=("lit", 10 ** 40, ""), variables=[]), ("literal", ()))
        self.assertEqual(type_of(expression=tree, model=LP32, variables=VARIABLES), "long")

    def test_runs_by_name(self):
        tree, values = ("add", X, ("var", "y")), {"x": 7, "y": -9}
        arguments = {"values": values, "expression": tree, "variables": VARIABLES}
        self.assertEqual(run(model=LP32, **arguments), ("value", -2))
        self.assertEqual(list(steps(model=LP32, **arguments)),
                         [((), "first", 7), ((), "second", -9), ((), "result", -2)])
        self.assertEqual(mathematical(**arguments), -2)
        self.assertEqual(run(LP32, VARIABLES, values=values, expression=X), ("value", 7))
        for function in (run, mathematical, lambda **named: list(steps(**named))):
            model = {} if function == mathematical else {"model": LP32}
            self.assertEqual(raised(function, values={}, expression=X, variables=VARIABLES, **model),
                             (InvalidValues, "x"))

    def test_ranges_and_clean_by_name(self):
        tree = ("add", X, ("var", "y"))
        self.assertEqual(bounds(expression=tree, variables=VARIABLES), (-9, 60009))
        self.assertEqual(outcomes(condition=("less",) + tree[1:], variables=VARIABLES), (True, True))
        self.assertIs(is_clean(expression=tree, variables=VARIABLES, model=LP32), True)
        self.assertIsNone(first_unclean(expression=tree, variables=VARIABLES, model=LP32))
        self.assertEqual(first_unclean(expression=("shl", X, 15), model=LP32, variables=VARIABLES)[:2], ((), "result"))

    def test_errors_by_name(self):
        wrong = [("x", "int", 1, 0)]
        for function in (admission, type_of, is_clean, first_unclean):
            self.assertEqual(raised(function, expression=X, variables=[], model=((), "s")), (InvalidModel, None))
            self.assertEqual(raised(function, expression=X, variables=wrong, model=LP32), (InvalidVariables, 0))
            self.assertEqual(raised(function, expression=X, variables=[], model=LP32), (InvalidExpression, ()))
        for function in (type_of, is_clean, first_unclean):
            self.assertEqual(raised(function, expression=X, variables=[("x", "uint", -1, 1)], model=LP32),
                             (NotAdmitted, ("variable", "x")))
        self.assertEqual(raised(lambda: list(nodes(expression=X, variables=wrong))), (InvalidVariables, 0))


class Arguments(unittest.TestCase):
    def test_not_modified(self):
        for function in CHECKED:
            for case in CASES:
                with self.subTest(function=function.__name__, case=case):
                    self.assertTrue(untouched(function, *case))

    def test_not_kept(self):
        for function in CHECKED:
            for case in CASES:
                with self.subTest(function=function.__name__, case=case):
                    variables = list(case[1])
                    before = sys.getrefcount(variables)
                    raised(function, case[0], variables, case[2])
                    self.assertEqual(sys.getrefcount(variables), before)

    def test_runs_leave_their_arguments(self):
        for case in CASES:
            for values in ({}, {"x": 1, "y": 2}, {"z": 1, "x": 1}, {"x": 60000, "y": 9, "none": 3}):
                with self.subTest(case=case, values=values):
                    self.assertTrue(untouched(ran, *case, values))
                    before = sys.getrefcount(values)
                    raised(ran, *case, values)
                    self.assertEqual(sys.getrefcount(values), before)

    def test_changes_behind_a_call_do_not_matter(self):
        variables = copy.copy(VARIABLES)
        self.assertEqual(type_of(LP32, variables, X), "ushort")
        variables[0] = ("x", "long", 0, 60000)
        self.assertEqual(type_of(LP32, variables, X), "long")
        variables.clear()
        self.assertEqual(raised(type_of, LP32, variables, X), (InvalidExpression, ()))

    def test_a_walk_goes_on_when_the_list_changes(self):
        variables = copy.copy(VARIABLES)
        walk = nodes(variables, ("add", X, ("var", "y")))
        found = [next(walk)]
        variables.clear()
        found.extend(walk)
        self.assertEqual([path for path, _ in found], [(), (0,), (1,)])


class Results(unittest.TestCase):
    """Results are new with each call."""

    def test_values_of_first_unclean(self):
        arguments = (LP32, VARIABLES, ("shl", X, 15))
        first, second = first_unclean(*arguments), first_unclean(*arguments)
        self.assertEqual(first, second)
        self.assertIsNot(first[2], second[2])
        first[2].clear()
        self.assertEqual(first_unclean(*arguments), second)

    def test_values_are_not_those_of_the_caller(self):
        values = {"x": 1, "y": 2}
        self.assertEqual(ran(LP32, VARIABLES, X, values), [("value", 1), [], 1])
        values["x"] = 2
        self.assertEqual(ran(LP32, VARIABLES, X, values), [("value", 2), [], 2])


class Bounds(unittest.TestCase):
    """Callers respect the bounds of promise 2; up to them, and somewhat beyond, no error is raised."""

    def test_largest_expression(self):
        for rows in (12, 20):
            names = "abcdefghijklmnopqrst"[:rows]
            variables = [(name, "int", -10 ** 40, 10 ** 40) for name in names]
            tree = ("var", "a")
            for name in names[1:]:
                tree = ("add", tree, ("var", name))
            self.assertEqual(len(list(nodes(variables, tree))), 2 * rows - 1)
            self.assertEqual(admission(LP32, variables, tree), ("variable", "a"))

    def test_deepest_expression(self):
        tree = ("lit", 10 ** 40, "")
        for _ in range(23):
            tree = ("shl", tree, 200)
        self.assertEqual(len(list(nodes([], tree))), 24)
        self.assertEqual(admission(LP32, [], tree), ("literal", (0,) * 23))


if __name__ == "__main__":
    unittest.main()
