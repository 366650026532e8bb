"""Promise 2 and the first paragraph of the interface: names, arguments, what calls leave behind."""

import copy
import inspect
import sys
import unittest
from math import comb

from castforms import casting, choosing, clean, comparing, counting, errors, expressions, groupings, mixed, models
from castforms import portable, projects, ranges, readings, runs, sums, texts
from castforms.casting import count_ways, fewest_casts, with_casts
from castforms.choosing import cheapest_types
from castforms.clean import first_unclean, is_clean
from castforms.comparing import clean_wherever, parting_model
from castforms.counting import count_models, nth_clean_model
from castforms.errors import InvalidExpression, InvalidModel, InvalidNumber, InvalidType, InvalidValues
from castforms.errors import InvalidVariables, NotAdmitted, NothingToUndo, Unreadable
from castforms.expressions import admission, nodes, type_of
from castforms.groupings import count_groupings, count_portable_groupings, nth_grouping
from castforms.mixed import count_wrong, first_wrong
from castforms.portable import counter_model, is_portable, least_clean_model
from castforms.projects import Project
from castforms.ranges import bounds, outcomes
from castforms.readings import read_expression, read_model, read_variables
from castforms.runs import mathematical, run, steps
from castforms.sums import count_beyond
from castforms.texts import show_expression, show_model, show_variables
from support import CASES, CONDITIONS, LP32, raised, untouched

FUNCTIONS = [
    (models, "width", ["model", "kind"]), (models, "limits", ["model", "kind"]),
    (models, "holds", ["model", "kind", "number"]), (models, "promoted", ["model", "kind"]),
    (models, "converted", ["model", "kind", "number"]), (models, "common", ["model", "first", "second"]),
    (expressions, "nodes", ["variables", "expression"]),
    (expressions, "admission", ["model", "variables", "expression"]),
    (expressions, "type_of", ["model", "variables", "expression"]),
    (runs, "run", ["model", "variables", "expression", "values"]),
    (runs, "steps", ["model", "variables", "expression", "values"]),
    (runs, "mathematical", ["variables", "expression", "values"]),
    (ranges, "bounds", ["variables", "expression"]), (ranges, "outcomes", ["variables", "condition"]),
    (clean, "is_clean", ["model", "variables", "expression"]),
    (clean, "first_unclean", ["model", "variables", "expression"]),
    (portable, "is_portable", ["variables", "expression", "minima"]),
    (portable, "counter_model", ["variables", "expression", "minima"]),
    (portable, "least_clean_model", ["variables", "expression", "minima"]),
    (counting, "count_models", ["variables", "expression", "most"]),
    (counting, "nth_clean_model", ["variables", "expression", "most", "number"]),
    (comparing, "clean_wherever", ["variables", "first", "second", "minima"]),
    (comparing, "parting_model", ["variables", "first", "second", "minima"]),
    (groupings, "count_groupings", ["model", "variables", "terms"]),
    (groupings, "nth_grouping", ["model", "variables", "terms", "number"]),
    (groupings, "count_portable_groupings", ["variables", "terms", "minima"]),
    (casting, "fewest_casts", ["models", "variables", "expression"]),
    (casting, "count_ways", ["models", "variables", "expression"]),
    (casting, "with_casts", ["models", "variables", "expression"]),
    (mixed, "count_wrong", ["model", "first", "second"]), (mixed, "first_wrong", ["model", "first", "second"]),
    (sums, "count_beyond", ["model", "kind", "ranges"]),
    (choosing, "cheapest_types", ["model", "variables", "expression"]),
    (texts, "show_expression", ["expression"]), (texts, "show_variables", ["variables"]),
    (texts, "show_model", ["model"]), (readings, "read_expression", ["text"]),
    (readings, "read_variables", ["text"]), (readings, "read_model", ["text"]),
]
# Where nothing is passed for a parameter.
DEFAULTS = {"minima": (8, 16, 16, 32, 64)}
CLASSES = [
    "CastError", "InvalidModel", "InvalidType", "InvalidVariables", "InvalidExpression", "InvalidValues",
    "InvalidNumber", "NotAdmitted", "NothingToUndo", "Unreadable",
]
X = ("var", "x")
VARIABLES = [("x", "ushort", 0, 60000), ("y", "long", -9, 9)]


def listed(model, variables, expression):
    return list(nodes(variables, expression))


def bounded(model, variables, expression):
    return (outcomes if expression[0] in CONDITIONS else bounds)(variables, expression)


def ran(model, variables, expression, values):
    """All that the files of runs say of a run."""
    return [run(model, variables, expression, values), list(steps(model, variables, expression, values)),
            mathematical(variables, expression, values)]


def over_models(model, variables, expression):
    """What is asked of all models at once; the widths of the model are the minima."""
    return [is_portable(variables, expression, model[0]), counter_model(variables, expression, model[0]),
            least_clean_model(variables, expression, model[0]),
            parting_model(variables, expression, expression, model[0]),
            clean_wherever(variables, ("lit", 1, ""), expression, model[0])]


def counted(model, variables, expression):
    return [count_models(variables, expression, 4), nth_clean_model(variables, expression, 4, 0)]


def grouped(model, variables, expression):
    terms = [("lit", 1, ""), expression]
    return [count_groupings(model, variables, terms), count_portable_groupings(variables, terms, model[0]),
            nth_grouping(model, variables, terms, 0)]


def cast(model, variables, expression):
    models = [model, model]
    whole = ("if", expression, ("lit", 1, ""), ("lit", 2, "")) if expression[0] in CONDITIONS else expression
    return [fewest_casts(models, variables, whole), count_ways(models, variables, whole),
            with_casts(models, variables, whole)]


def project_calls(model, variables, expression):
    """What methods of a project answer, one behind the other."""
    project = Project(variables)
    project.add(("lit", 1, ""), expression)
    answers = [project.expressions, list(project.verdicts(model)), project.counter_models(model[0])]
    project.remove(0)
    project.undo()
    return answers + [project.expressions, project == Project(variables)]


CHECKED = [listed, admission, type_of, bounded, is_clean, first_unclean, over_models, counted, grouped, cast,
           cheapest_types, project_calls]


class Interface(unittest.TestCase):
    def test_functions_stand_in_their_files(self):
        for module, name, parameters in FUNCTIONS:
            with self.subTest(name=name):
                function = getattr(module, name)
                self.assertTrue(inspect.isfunction(function))
                self.assertEqual(function.__module__, module.__name__)
                self.assertEqual(function.__name__, name)
                self.assertEqual(list(inspect.signature(function).parameters), parameters)
                for parameter in inspect.signature(function).parameters.values():
                    self.assertEqual(parameter.kind, parameter.POSITIONAL_OR_KEYWORD)
                    self.assertEqual(parameter.default, DEFAULTS.get(parameter.name, parameter.empty))

    def test_classes_stand_in_their_file(self):
        for name in CLASSES:
            self.assertEqual(getattr(errors, name).__module__, "castforms.errors")
            self.assertEqual("__init__" in vars(getattr(errors, name)), name != "CastError")

    def test_project_stands_in_its_file(self):
        self.assertEqual(Project.__module__, projects.__name__)
        for name in ("__init__", "__eq__", "expressions", "add", "remove", "undo", "verdicts", "counter_models",
                     "of_texts"):
            self.assertIn(name, vars(Project))

    def test_by_name(self):
        tree = ("add", X, ("var", "y"))
        self.assertEqual(list(nodes(expression=tree, variables=VARIABLES)), list(nodes(VARIABLES, tree)))
        self.assertIsNone(admission(expression=tree, variables=VARIABLES, model=LP32))
        self.assertEqual(admission(LP32, expression=("lit", 10 ** 40, ""), variables=[]), ("literal", ()))
        self.assertEqual(type_of(expression=tree, model=LP32, variables=VARIABLES), "long")

    def test_runs_by_name(self):
        tree, values = ("add", X, ("var", "y")), {"x": 7, "y": -9}
        arguments = {"values": values, "expression": tree, "variables": VARIABLES}
        self.assertEqual(run(model=LP32, **arguments), ("value", -2))
        self.assertEqual(list(steps(model=LP32, **arguments)),
                         [((), "first", 7), ((), "second", -9), ((), "result", -2)])
        self.assertEqual(mathematical(**arguments), -2)
        self.assertEqual(run(LP32, VARIABLES, values=values, expression=X), ("value", 7))
        for function in (run, mathematical, lambda **named: list(steps(**named))):
            model = {} if function == mathematical else {"model": LP32}
            self.assertEqual(raised(function, values={}, expression=X, variables=VARIABLES, **model),
                             (InvalidValues, "x"))

    def test_ranges_and_clean_by_name(self):
        tree = ("add", X, ("var", "y"))
        self.assertEqual(bounds(expression=tree, variables=VARIABLES), (-9, 60009))
        self.assertEqual(outcomes(condition=("less",) + tree[1:], variables=VARIABLES), (True, True))
        self.assertIs(is_clean(expression=tree, variables=VARIABLES, model=LP32), True)
        self.assertIsNone(first_unclean(expression=tree, variables=VARIABLES, model=LP32))
        self.assertEqual(first_unclean(expression=("shl", X, 15), model=LP32, variables=VARIABLES)[:2], ((), "result"))

    def test_models_by_name(self):
        arguments = {"expression": ("add", X, ("lit", 1, "")), "variables": [("x", "int", 0, 32767)]}
        least = (8, 16, 17, 32, 64)
        self.assertEqual(counter_model(**arguments), (DEFAULTS["minima"], "s"))
        self.assertEqual(counter_model(minima=(8, 16, 16, 32, 65), **arguments), ((8, 16, 16, 32, 65), "s"))
        self.assertIsNone(counter_model(minima=least, **arguments))
        self.assertEqual(least_clean_model(**arguments), (least, "s"))
        self.assertEqual(least_clean_model(minima=(9, 9, 9, 9, 9), **arguments), ((9, 9, 17, 17, 17), "s"))
        self.assertIs(is_portable(**arguments), False)
        self.assertIs(is_portable(minima=least, **arguments), True)
        # `int` has 16 bits, or 17 as `long` and `wide` have then; no lesser rank has more.
        self.assertEqual(count_models(most=17, **arguments), (2 * (3 * comb(16, 2) + comb(17, 2)), 2 * comb(17, 2)))
        self.assertEqual(nth_clean_model(number=1, most=17, **arguments), ((2, 2, 17, 17, 17), "u"))
        self.assertEqual(raised(nth_clean_model, number=0, most=16, **arguments), (InvalidNumber, 0))

    def test_two_expressions_by_name(self):
        arguments = {"second": X, "first": ("add", X, ("lit", 1, "")), "variables": [("x", "int", 0, 32767)]}
        self.assertEqual(parting_model(**arguments), (DEFAULTS["minima"], "s"))
        self.assertIsNone(parting_model(minima=(8, 16, 17, 32, 64), **arguments))
        self.assertIs(clean_wherever(**arguments), False)
        self.assertIs(clean_wherever(minima=(8, 16, 17, 32, 64), **arguments), True)

    def test_groupings_by_name(self):
        arguments = {"terms": [X, ("lit", 1, "")], "variables": [("x", "int", 0, 32767)]}
        wider = ((8, 16, 17, 32, 64), "s")
        self.assertEqual(count_groupings(model=LP32, **arguments), 0)
        self.assertEqual(count_groupings(model=wider, **arguments), 1)
        self.assertEqual(nth_grouping(number=0, model=wider, **arguments), ("add", X, ("lit", 1, "")))
        self.assertEqual(raised(nth_grouping, number=0, model=LP32, **arguments), (InvalidNumber, 0))
        self.assertEqual(count_portable_groupings(**arguments), 0)
        self.assertEqual(count_portable_groupings(minima=wider[0], **arguments), 1)

    def test_casts_by_name(self):
        arguments = {"expression": ("add", X, ("lit", 1, "")), "variables": [("x", "int", 0, 32767)]}
        models = [((8, 16, 17, 32, 64), "s"), LP32]
        self.assertEqual(fewest_casts(models=models, **arguments), 1)
        self.assertEqual(fewest_casts(models=models[:1], **arguments), 0)
        # Either part to any type with more bits, or to `uint`, or one that becomes it.
        self.assertEqual(count_ways(models=[LP32], **arguments), 12)
        self.assertEqual(with_casts(models=models[:1], **arguments), arguments["expression"])
        self.assertEqual(raised(with_casts, models=[], **arguments), (InvalidNumber, 0))

    def test_mixed_and_sums_by_name(self):
        model = ((2, 2, 2, 3, 3), "s")
        self.assertEqual(count_wrong(second="uint", first="int", model=model), 7)
        self.assertEqual(first_wrong(second="int", first="uint", model=model), (0, -2))
        self.assertEqual(raised(count_wrong, second="byte", first="int", model=model), (InvalidType, "byte"))
        self.assertEqual(count_beyond(ranges=[(-1, 1)], kind="uchar", model=model), 1)
        self.assertEqual(raised(count_beyond, ranges=[(1, 0)], kind="int", model=model), (InvalidNumber, 0))

    def test_types_and_texts_by_name(self):
        arguments = {"expression": ("sub", X, ("var", "y")), "variables": VARIABLES}
        self.assertEqual(cheapest_types(model=LP32, **arguments), ["long", "char"])
        self.assertEqual(raised(cheapest_types, model=LP32, variables=[], expression=("lit", 10 ** 40, "")),
                         (NotAdmitted, ("literal", ())))
        self.assertEqual(show_expression(expression=arguments["expression"]), "(x - y)")
        self.assertEqual(show_variables(variables=VARIABLES), "x ushort 0 60000, y long -9 9")
        self.assertEqual(show_model(model=LP32), "8 16 16 32 64 s")
        self.assertEqual(read_expression(text="(x - y)"), arguments["expression"])
        self.assertEqual(read_variables(text="x ushort 0 60000, y long -9 9"), VARIABLES)
        self.assertEqual(read_model(text="8 16 16 32 64 s"), LP32)
        for function in (read_expression, read_variables, read_model):
            self.assertEqual(raised(function, text="x +"), (Unreadable, "x +"))

    def test_projects_by_name(self):
        project = Project(variables=VARIABLES)
        project.add(X, ("neg", X))
        self.assertEqual(list(project.verdicts(model=LP32)), [True, False])
        self.assertEqual(project.counter_models(minima=LP32[0]), [None, LP32])
        self.assertEqual(project.remove(index=1), ("neg", X))
        self.assertEqual(raised(project.remove, index=1), (InvalidNumber, 1))
        self.assertEqual(Project.of_texts(texts=["x"], variables_text=show_variables(VARIABLES)), project)
        self.assertEqual(raised(Project([]).undo), (NothingToUndo, 0))

    def test_errors_by_name(self):
        wrong = [("x", "int", 1, 0)]
        for function in (admission, type_of, is_clean, first_unclean):
            self.assertEqual(raised(function, expression=X, variables=[], model=((), "s")), (InvalidModel, None))
            self.assertEqual(raised(function, expression=X, variables=wrong, model=LP32), (InvalidVariables, 0))
            self.assertEqual(raised(function, expression=X, variables=[], model=LP32), (InvalidExpression, ()))
        for function in (type_of, is_clean, first_unclean):
            self.assertEqual(raised(function, expression=X, variables=[("x", "uint", -1, 1)], model=LP32),
                             (NotAdmitted, ("variable", "x")))
        self.assertEqual(raised(lambda: list(nodes(expression=X, variables=wrong))), (InvalidVariables, 0))


class Arguments(unittest.TestCase):
    def test_not_modified(self):
        for function in CHECKED:
            for case in CASES:
                with self.subTest(function=function.__name__, case=case):
                    self.assertTrue(untouched(function, *case))

    def test_not_kept(self):
        for function in CHECKED:
            for case in CASES:
                with self.subTest(function=function.__name__, case=case):
                    variables = list(case[1])
                    before = sys.getrefcount(variables)
                    raised(function, case[0], variables, case[2])
                    self.assertEqual(sys.getrefcount(variables), before)

    def test_terms_are_not_modified_or_kept(self):
        for model, variables, expression in CASES:
            one, wrong = ("lit", 1, "u"), ("lit", -1, "")
            for terms in ([expression], [one, expression, one], [wrong, expression], []):
                for function in (count_groupings, lambda *rest: nth_grouping(*rest, 0),
                                 lambda model, variables, terms: count_portable_groupings(variables, terms, model[0])):
                    with self.subTest(variables=variables, terms=terms):
                        self.assertTrue(untouched(function, model, variables, terms))
                        before = sys.getrefcount(terms)
                        raised(function, model, variables, terms)
                        self.assertEqual(sys.getrefcount(terms), before)

    def test_models_and_ranges_are_not_modified_or_kept(self):
        calls = []
        for model, variables, expression in CASES:
            for models in ([], [model], [LP32, model, LP32], [model, LP32]):
                for function in (fewest_casts, count_ways, with_casts):
                    calls.append((function, models, variables, expression))
        for model in (LP32, ((8, 16, 16, 32), "s")):
            for given in ([], [(0, 1)] * 8, [(0, 1), (1, 0)], [(-10 ** 40, 10 ** 40)]):
                calls.extend([(count_beyond, model, "int", given), (count_beyond, model, "byte", given)])
        for call in calls:
            with self.subTest(call=call):
                self.assertTrue(untouched(*call))
                for argument in call[1:]:
                    before = sys.getrefcount(argument)
                    raised(*call)
                    self.assertEqual(sys.getrefcount(argument), before)

    def test_runs_leave_their_arguments(self):
        for case in CASES:
            for values in ({}, {"x": 1, "y": 2}, {"z": 1, "x": 1}, {"x": 60000, "y": 9, "none": 3}):
                with self.subTest(case=case, values=values):
                    self.assertTrue(untouched(ran, *case, values))
                    before = sys.getrefcount(values)
                    raised(ran, *case, values)
                    self.assertEqual(sys.getrefcount(values), before)

    def test_changes_behind_a_call_do_not_matter(self):
        variables = copy.copy(VARIABLES)
        self.assertEqual(type_of(LP32, variables, X), "ushort")
        variables[0] = ("x", "long", 0, 60000)
        self.assertEqual(type_of(LP32, variables, X), "long")
        variables.clear()
        self.assertEqual(raised(type_of, LP32, variables, X), (InvalidExpression, ()))

    def test_a_walk_goes_on_when_the_list_changes(self):
        variables = copy.copy(VARIABLES)
        walk = nodes(variables, ("add", X, ("var", "y")))
        found = [next(walk)]
        variables.clear()
        found.extend(walk)
        self.assertEqual([path for path, _ in found], [(), (0,), (1,)])


class Results(unittest.TestCase):
    """Results are new with each call."""

    def test_values_of_first_unclean(self):
        arguments = (LP32, VARIABLES, ("shl", X, 15))
        first, second = first_unclean(*arguments), first_unclean(*arguments)
        self.assertEqual(first, second)
        self.assertIsNot(first[2], second[2])
        first[2].clear()
        self.assertEqual(first_unclean(*arguments), second)

    def test_lists(self):
        project = Project(VARIABLES)
        project.add(X, ("neg", X))
        for call in (lambda: cheapest_types(LP32, VARIABLES, X), lambda: project.expressions, project.counter_models,
                     lambda: read_variables("x int 0 1")):
            first = call()
            before = list(first)
            first.clear()
            self.assertEqual(call(), before)

    def test_values_are_not_those_of_the_caller(self):
        values = {"x": 1, "y": 2}
        self.assertEqual(ran(LP32, VARIABLES, X, values), [("value", 1), [], 1])
        values["x"] = 2
        self.assertEqual(ran(LP32, VARIABLES, X, values), [("value", 2), [], 2])


class Bounds(unittest.TestCase):
    """Callers respect the bounds of promise 2; up to them, and somewhat beyond, no error is raised."""

    def test_largest_expression(self):
        for rows in (12, 20):
            names = "abcdefghijklmnopqrst"[:rows]
            variables = [(name, "int", -10 ** 40, 10 ** 40) for name in names]
            tree = ("var", "a")
            for name in names[1:]:
                tree = ("add", tree, ("var", name))
            self.assertEqual(len(list(nodes(variables, tree))), 2 * rows - 1)
            self.assertEqual(admission(LP32, variables, tree), ("variable", "a"))

    def test_deepest_expression(self):
        tree = ("lit", 10 ** 40, "")
        for _ in range(23):
            tree = ("shl", tree, 200)
        self.assertEqual(len(list(nodes([], tree))), 24)
        self.assertEqual(admission(LP32, [], tree), ("literal", (0,) * 23))


if __name__ == "__main__":
    unittest.main()
