"""Promise 2 and the first paragraph of the interface: names, arguments, what calls leave behind."""

import copy
import inspect
import sys
import unittest

from castforms import errors, expressions, models
from castforms.errors import InvalidExpression, InvalidModel, InvalidVariables, NotAdmitted
from castforms.expressions import admission, nodes, type_of
from support import LP32, raised, untouched

FUNCTIONS = [
    (models, "width", ["model", "kind"]), (models, "limits", ["model", "kind"]),
    (models, "holds", ["model", "kind", "number"]), (models, "promoted", ["model", "kind"]),
    (models, "converted", ["model", "kind", "number"]), (models, "common", ["model", "first", "second"]),
    (expressions, "nodes", ["variables", "expression"]),
    (expressions, "admission", ["model", "variables", "expression"]),
    (expressions, "type_of", ["model", "variables", "expression"]),
]
CLASSES = [
    "CastError", "InvalidModel", "InvalidType", "InvalidVariables", "InvalidExpression", "InvalidValues",
    "InvalidNumber", "NotAdmitted", "NothingToUndo", "Unreadable",
]
X = ("var", "x")
VARIABLES = [("x", "ushort", 0, 60000), ("y", "long", -9, 9)]
# For each function that takes variables: calls that return and calls that raise.
CASES = [
    (LP32, VARIABLES, ("add", X, ("var", "y"))),
    (LP32, VARIABLES, ("less", X, ("var", "y"))),
    (((8, 16, 16, 32), "s"), VARIABLES, X),
    (((8, 16, 16, 32, 64), "x"), VARIABLES, X),
    (LP32, VARIABLES + [("x", "int", 0, 1)], X),
    (LP32, VARIABLES, ("add", X, ("neg", X))),
    (LP32, VARIABLES + [("z", "char", 0, 1000)], X),
    (LP32, VARIABLES, ("add", X, ("lit", 10 ** 40, "uw"))),
]


def listed(model, variables, expression):
    return list(nodes(variables, expression))


class Interface(unittest.TestCase):
    def test_functions_stand_in_their_files(self):
        for module, name, parameters in FUNCTIONS:
            with self.subTest(name=name):
                function = getattr(module, name)
                self.assertTrue(inspect.isfunction(function))
                self.assertEqual(function.__module__, module.__name__)
                self.assertEqual(function.__name__, name)
                self.assertEqual(list(inspect.signature(function).parameters), parameters)
                for parameter in inspect.signature(function).parameters.values():
                    self.assertEqual(parameter.kind, parameter.POSITIONAL_OR_KEYWORD)
                    self.assertEqual(parameter.default, parameter.empty)

    def test_classes_stand_in_their_file(self):
        for name in CLASSES:
            self.assertEqual(getattr(errors, name).__module__, "castforms.errors")
            self.assertEqual("__init__" in vars(getattr(errors, name)), name != "CastError")

    def test_by_name(self):
        tree = ("add", X, ("var", "y"))
        self.assertEqual(list(nodes(expression=tree, variables=VARIABLES)), list(nodes(VARIABLES, tree)))
        self.assertIsNone(admission(expression=tree, variables=VARIABLES, model=LP32))
        self.assertEqual(admission(LP32, expression=("lit", 10 ** 40, ""), variables=[]), ("literal", ()))
        self.assertEqual(type_of(expression=tree, model=LP32, variables=VARIABLES), "long")

    def test_errors_by_name(self):
        wrong = [("x", "int", 1, 0)]
        for function in (admission, type_of):
            self.assertEqual(raised(function, expression=X, variables=[], model=((), "s")), (InvalidModel, None))
            self.assertEqual(raised(function, expression=X, variables=wrong, model=LP32), (InvalidVariables, 0))
            self.assertEqual(raised(function, expression=X, variables=[], model=LP32), (InvalidExpression, ()))
        self.assertEqual(raised(type_of, expression=X, variables=[("x", "uint", -1, 1)], model=LP32),
                         (NotAdmitted, ("variable", "x")))
        self.assertEqual(raised(lambda: list(nodes(expression=X, variables=wrong))), (InvalidVariables, 0))


class Arguments(unittest.TestCase):
    def test_not_modified(self):
        for function in (listed, admission, type_of):
            for case in CASES:
                with self.subTest(function=function.__name__, case=case):
                    self.assertTrue(untouched(function, *case))

    def test_not_kept(self):
        for function in (listed, admission, type_of):
            for case in CASES:
                with self.subTest(function=function.__name__, case=case):
                    variables = list(case[1])
                    before = sys.getrefcount(variables)
                    raised(function, case[0], variables, case[2])
                    self.assertEqual(sys.getrefcount(variables), before)

    def test_changes_behind_a_call_do_not_matter(self):
        variables = copy.copy(VARIABLES)
        self.assertEqual(type_of(LP32, variables, X), "ushort")
        variables[0] = ("x", "long", 0, 60000)
        self.assertEqual(type_of(LP32, variables, X), "long")
        variables.clear()
        self.assertEqual(raised(type_of, LP32, variables, X), (InvalidExpression, ()))

    def test_a_walk_goes_on_when_the_list_changes(self):
        variables = copy.copy(VARIABLES)
        walk = nodes(variables, ("add", X, ("var", "y")))
        found = [next(walk)]
        variables.clear()
        found.extend(walk)
        self.assertEqual([path for path, _ in found], [(), (0,), (1,)])


class Bounds(unittest.TestCase):
    """Callers respect the bounds of promise 2; up to them, and somewhat beyond, no error is raised."""

    def test_largest_expression(self):
        for rows in (12, 20):
            names = "abcdefghijklmnopqrst"[:rows]
            variables = [(name, "int", -10 ** 40, 10 ** 40) for name in names]
            tree = ("var", "a")
            for name in names[1:]:
                tree = ("add", tree, ("var", name))
            self.assertEqual(len(list(nodes(variables, tree))), 2 * rows - 1)
            self.assertEqual(admission(LP32, variables, tree), ("variable", "a"))

    def test_deepest_expression(self):
        tree = ("lit", 10 ** 40, "")
        for _ in range(23):
            tree = ("shl", tree, 200)
        self.assertEqual(len(list(nodes([], tree))), 24)
        self.assertEqual(admission(LP32, [], tree), ("literal", (0,) * 23))


if __name__ == "__main__":
    unittest.main()
