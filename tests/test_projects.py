"""Projects: expressions that are added and removed, undo, equality, verdicts, counter models, texts."""

import copy
import inspect
import random
import sys
import unittest

from castforms.clean import is_clean
from castforms.errors import InvalidExpression, InvalidModel, InvalidNumber, InvalidVariables, NothingToUndo
from castforms.errors import Unreadable
from castforms.expressions import admission
from castforms.portable import counter_model
from castforms.projects import Project
from castforms.texts import show_expression
from support import LP32, all_models, raised, random_tree, random_variables

X, Y, ONE = ("var", "x"), ("var", "y"), ("lit", 1, "")
A, B, C, D = ("add", X, Y), ("neg", X), ("less", X, Y), ("lit", 2 ** 70, "")
WRONG = ("add", X, X)
VARIABLES = [("x", "ushort", 0, 60000), ("y", "int", -5, 5)]
MINIMA = (8, 16, 32, 64, 64)


def project_of(*expressions, variables=tuple(VARIABLES)):
    project = Project(list(variables))
    project.add(*expressions)
    return project


class Expressions(unittest.TestCase):
    def test_new(self):
        self.assertEqual(Project(VARIABLES).expressions, [])
        self.assertEqual(Project([]).expressions, [])

    def test_add(self):
        project = Project(VARIABLES)
        self.assertIsNone(project.add(A))
        self.assertEqual(project.expressions, [A])
        self.assertIsNone(project.add())
        self.assertEqual(project.expressions, [A])
        self.assertIsNone(project.add(B, C, A))
        self.assertEqual(project.expressions, [A, B, C, A])
        project.add(*[ONE] * 30)
        self.assertEqual(project.expressions, [A, B, C, A] + [ONE] * 30)

    def test_add_of_a_wrong_one(self):
        for before in ((), (A, B)):
            project = project_of(*before)
            for wrong, path in ((WRONG, (1,)), (("var", "z"), ()), (("neg", C), (0,)), (("lit", -1, ""), ())):
                for added in ((wrong,), (A, wrong), (wrong, A), (A, B, wrong, ("neg",)), (D, wrong)):
                    self.assertEqual(raised(project.add, *added), (InvalidExpression, path))
                    self.assertEqual(project.expressions, list(before))
            project.undo()
            self.assertEqual(raised(project.undo), (NothingToUndo, 0))
            self.assertEqual(project.expressions, [])

    def test_each_expression_has_its_own_variables(self):
        # A name may occur in several expressions, once in each.
        project = project_of(X, X, A, A, ("sub", Y, X))
        self.assertEqual(len(project.expressions), 5)

    def test_remove(self):
        for index in range(4):
            project = project_of(A, B, C, D)
            self.assertEqual(project.remove(index), (A, B, C, D)[index])
            left = [A, B, C, D]
            del left[index]
            self.assertEqual(project.expressions, left)
        project = project_of(A, B)
        self.assertEqual([project.remove(0), project.remove(0), project.expressions], [A, B, []])

    def test_remove_what_is_not_there(self):
        for expressions in ((), (A,), (A, B, C)):
            project = project_of(*expressions)
            for index in (len(expressions), len(expressions) + 1, -1, -len(expressions), -2, 10 ** 40, -10 ** 40):
                if index != 0 or not expressions:
                    self.assertEqual(raised(project.remove, index), (InvalidNumber, index))
                    self.assertEqual(raised(project.remove, index=index), (InvalidNumber, index))
                    self.assertEqual(project.expressions, list(expressions))

    def test_remove_by_name(self):
        project = project_of(A, B)
        self.assertEqual(project.remove(index=1), B)

    def test_lists_are_new(self):
        project = project_of(A, B)
        found = project.expressions
        self.assertIsNot(found, project.expressions)
        found.clear()
        project.expressions.append(C)
        self.assertEqual(project.expressions, [A, B])
        before = project.expressions
        project.remove(0)
        project.undo()
        project.add(C)
        self.assertEqual(before, [A, B])

    def test_variables_are_not_kept(self):
        variables = copy.copy(VARIABLES)
        before = sys.getrefcount(variables)
        project = Project(variables)
        self.assertEqual(sys.getrefcount(variables), before)
        variables[1] = ("z", "int", 0, 1)
        variables.append(("w", "int", 0, 1))
        project.add(A)
        self.assertEqual(raised(project.add, ("var", "z")), (InvalidExpression, ()))
        self.assertEqual(raised(project.add, ("var", "w")), (InvalidExpression, ()))
        variables.clear()
        self.assertEqual(list(project.verdicts(((8, 16, 32, 64, 64), "s"))), [True])
        self.assertEqual(project, project_of(A))

    def test_wrong_variables(self):
        for variables, index in (([("x", "int", 1, 0)], 0), (VARIABLES + [("x", "int", 0, 1)], 2),
                                 (VARIABLES + [("none", "int", 0, 1)], 2), ([("x", "byte", 0, 1)], 0)):
            self.assertEqual(raised(Project, variables), (InvalidVariables, index))
            self.assertEqual(raised(Project, variables=variables), (InvalidVariables, index))
        self.assertEqual(Project(variables=VARIABLES), Project(VARIABLES))


class Undo(unittest.TestCase):
    def check_nothing_left(self, project):
        before = project.expressions
        for _ in range(2):
            self.assertEqual(raised(project.undo), (NothingToUndo, 0))
            self.assertEqual(project.expressions, before)

    def test_new(self):
        self.check_nothing_left(Project(VARIABLES))

    def test_add(self):
        for added in ((), (A,), (A, B, C)):
            project = project_of(D)
            project.add(*added)
            self.assertIsNone(project.undo())
            self.assertEqual(project.expressions, [D])
            project.undo()
            self.assertEqual(project.expressions, [])
            self.check_nothing_left(project)

    def test_add_of_none_counts(self):
        project = Project(VARIABLES)
        project.add()
        project.undo()
        self.check_nothing_left(project)
        project.add(A)
        project.add()
        project.undo()
        self.assertEqual(project.expressions, [A])

    def test_remove_comes_back_at_its_place(self):
        for index in range(4):
            project = project_of(A, B, C, D)
            project.remove(index)
            project.undo()
            self.assertEqual(project.expressions, [A, B, C, D])
        project = project_of(A, B, C, D)
        for index in (2, 0, 1):
            project.remove(index)
        self.assertEqual(project.expressions, [B])
        for wanted in ([B, D], [A, B, D], [A, B, C, D], []):
            project.undo()
            self.assertEqual(project.expressions, wanted)
        self.check_nothing_left(project)

    def test_refused_calls_do_not_count(self):
        project = project_of(A, B)
        project.remove(1)
        self.assertEqual(raised(project.add, C, WRONG), (InvalidExpression, (1,)))
        self.assertEqual(raised(project.remove, 1), (InvalidNumber, 1))
        self.assertEqual(raised(lambda: list(project.verdicts(((), "s")))), (InvalidModel, None))
        self.assertEqual(raised(project.counter_models, ()), (InvalidModel, None))
        project.undo()
        self.assertEqual(project.expressions, [A, B])
        project.undo()
        self.check_nothing_left(project)

    def test_other_calls_do_not_count(self):
        project = project_of(A)
        list(project.verdicts(LP32))
        project.counter_models()
        project.expressions.append(B)
        self.assertTrue(project == project_of(A))
        project.undo()
        self.check_nothing_left(project)

    def test_new_calls_behind_undo(self):
        project = project_of(A)
        project.add(B)
        project.undo()
        project.add(C)
        project.remove(0)
        self.assertEqual(project.expressions, [C])
        for wanted in ([A, C], [A], []):
            project.undo()
            self.assertEqual(project.expressions, wanted)
        self.check_nothing_left(project)

    def test_undo_is_not_undone(self):
        project = project_of(A)
        project.add(B)
        project.undo()
        project.undo()
        self.assertEqual(project.expressions, [])
        self.check_nothing_left(project)

    def test_objects_do_not_share(self):
        first, second = project_of(A), project_of(A)
        first.add(B)
        second.remove(0)
        self.assertEqual((first.expressions, second.expressions), ([A, B], []))
        first.undo()
        self.assertEqual((first.expressions, second.expressions), ([A], []))

    def test_drawn_calls(self):
        """Against a list of all states before."""
        rng = random.Random(221)
        for _ in range(40):
            project, states = Project(VARIABLES), [[]]
            for _ in range(100):
                now = list(states[-1])
                word = rng.choice(["add", "remove", "undo", "wrong"])
                if word == "add":
                    added = [rng.choice([A, B, C, D, ONE]) for _ in range(rng.randrange(4))]
                    project.add(*added)
                    states.append(now + added)
                elif word == "wrong":
                    self.assertEqual(raised(project.add, A, WRONG), (InvalidExpression, (1,)))
                elif word == "undo" and len(states) == 1:
                    self.assertEqual(raised(project.undo), (NothingToUndo, 0))
                elif word == "undo":
                    project.undo()
                    states.pop()
                else:
                    index = rng.randrange(-1, len(now) + 1)
                    if 0 <= index < len(now):
                        self.assertEqual(project.remove(index), now.pop(index))
                        states.append(now)
                    else:
                        self.assertEqual(raised(project.remove, index), (InvalidNumber, index))
                self.assertEqual(project.expressions, states[-1])


class Equality(unittest.TestCase):
    def check(self, one, other, wanted):
        for first, second in ((one, other), (other, one)):
            self.assertIs(first == second, wanted)
            self.assertIs(first != second, not wanted)

    def test_equal(self):
        self.check(Project([]), Project([]), True)
        self.check(Project(VARIABLES), Project(list(VARIABLES)), True)
        self.check(project_of(A, B), project_of(A, B), True)
        one = project_of(A, B)
        self.check(one, one, True)

    def test_equal_by_other_calls(self):
        one = Project(VARIABLES)
        one.add(A)
        one.add(C)
        one.add()
        one.add(B, B)
        one.remove(1)
        one.remove(2)
        other = project_of(A, B)
        self.check(one, other, True)
        other.add(C)
        self.check(one, other, False)
        other.undo()
        self.check(one, other, True)
        # One can undo more than the other.
        other.undo()
        self.check(other, Project(VARIABLES), True)
        self.check(Project.of_texts("x ushort 0 60000, y int -5 5", ["(x + y)", "(neg x)"]), one, True)

    def test_other_variables(self):
        for variables in (VARIABLES[::-1], VARIABLES[:1], VARIABLES + [("z", "int", 0, 1)],
                          [("x", "uint", 0, 60000), VARIABLES[1]], [("x", "ushort", 0, 59999), VARIABLES[1]],
                          [("x", "ushort", 1, 60000), VARIABLES[1]], []):
            self.check(Project(VARIABLES), Project(variables), False)
            self.check(project_of(ONE), project_of(ONE, variables=variables), False)

    def test_other_expressions(self):
        self.check(project_of(A, B), project_of(B, A), False)
        self.check(project_of(A, B), project_of(A), False)
        self.check(project_of(A), project_of(A, A), False)
        self.check(project_of(A), Project(VARIABLES), False)
        self.check(project_of(("lit", 1, "")), project_of(("lit", 1, "u")), False)

    def test_anything_else(self):
        for project in (Project([]), project_of(A, B)):
            for other in ([], [A, B], VARIABLES, (VARIABLES, [A, B]), (), "", "project", None, 0, 1, {}, True, Project,
                          object(), [project], project.expressions, "x ushort 0 60000, y int -5 5"):
                self.check(project, other, False)

    def test_calls_change_nothing(self):
        one, other = project_of(A), project_of(A)
        one.remove(0)
        self.check(one, other, False)
        self.assertEqual((one.expressions, other.expressions), ([], [A]))
        one.undo()
        one.undo()
        self.assertEqual(raised(one.undo), (NothingToUndo, 0))


class Verdicts(unittest.TestCase):
    def test_written_out(self):
        project = project_of(A, B, C, D, ("neg", Y), ("lit", 2 ** 31, "l"))
        self.assertEqual(list(project.verdicts(LP32)), [False, False, False, ("literal", ()), True, True])
        self.assertEqual(list(project.verdicts(((8, 16, 32, 64, 64), "s"))),
                         [True, True, True, ("literal", ()), True, True])
        self.assertEqual(list(project.verdicts(((8, 15, 32, 64, 64), "s"))), [("variable", "x")] * 6)
        self.assertEqual(list(project.verdicts(((2, 16, 16, 31, 31), "s")))[4:], [True, ("literal", ())])
        self.assertEqual(list(Project(VARIABLES).verdicts(LP32)), [])
        for verdict in list(project.verdicts(LP32))[:3]:
            self.assertIs(verdict, False)

    def test_by_name_and_kinds(self):
        project = project_of(("neg", Y), ("add", X, ("neg", D)))
        self.assertEqual(list(project.verdicts(model=LP32)), [True, ("literal", (1, 0))])
        self.assertTrue(inspect.isgenerator(project.verdicts(LP32)))
        self.assertIs(next(project.verdicts(LP32)), True)

    def test_against_clean(self):
        rng = random.Random(222)
        models = all_models((2,) * 5, 6)
        seen = set()
        for _ in range(150):
            variables = random_variables(rng, 3)
            project = Project(variables)
            for number in range(4):
                project.add(random_tree(rng, list("abc"), rng.randrange(3, 9), "EEEC"[number]))
            for model in rng.sample(models, 3):
                wanted = []
                for expression in project.expressions:
                    reason = admission(model, variables, expression)
                    wanted.append(is_clean(model, variables, expression) if reason is None else reason)
                    seen.add(wanted[-1] if reason is None else reason[0])
                self.assertEqual(list(project.verdicts(model)), wanted)
        self.assertEqual(seen, {True, False, "variable", "literal"})

    def test_two_walks_and_one_that_stops(self):
        project = project_of(("neg", Y), A, D, Y)
        first, second = project.verdicts(LP32), project.verdicts(((8, 16, 32, 64, 64), "s"))
        self.assertEqual([next(first), next(second), next(second), next(first)], [True, True, True, False])
        stopped = project.verdicts(LP32)
        next(stopped)
        stopped.close()
        self.assertEqual([list(second), list(first)], [[("literal", ()), True]] * 2)
        self.assertEqual(list(project.verdicts(LP32)), [True, False, ("literal", ()), True])
        project.remove(0)
        self.assertEqual(list(project.verdicts(LP32)), [False, ("literal", ()), True])
        project.undo()
        self.assertEqual(list(project.verdicts(LP32)), [True, False, ("literal", ()), True])

    def test_wrong_models(self):
        for project in (Project([]), project_of(A, D)):
            for model, index in ((((8, 16, 16, 32), "s"), None), (((8, 16, 15, 32, 64), "s"), 2),
                                 (((1, 16, 16, 32, 64), "s"), 0), (((8, 16, 16, 32, 64), "x"), None)):
                self.assertEqual(raised(lambda: next(project.verdicts(model), 0)), (InvalidModel, index))
                self.assertEqual(raised(lambda: list(project.verdicts(model=model))), (InvalidModel, index))


class CounterModels(unittest.TestCase):
    def test_written_out(self):
        project = project_of(B, ("neg", Y), C, D, A)
        wanted = [counter_model(VARIABLES, tree) for tree in (B, ("neg", Y), C, D, A)]
        self.assertEqual(project.counter_models(), wanted)
        self.assertEqual(wanted, [(LP32[0], "s"), None, (LP32[0], "s"), None, (LP32[0], "s")])
        self.assertEqual(Project(VARIABLES).counter_models(), [])

    def test_minima(self):
        project = project_of(B, ("add", ("neg", X), ("lit", 5, "")), ("shl", ("lit", 1, ""), 40))
        for minima in (MINIMA, (2,) * 5, (8, 16, 17, 32, 64), (128,) * 5, (8, 16, 16, 32, 64)):
            wanted = [counter_model(VARIABLES, tree, minima) for tree in project.expressions]
            self.assertEqual(project.counter_models(minima), wanted)
            self.assertEqual(project.counter_models(minima=minima), wanted)
        self.assertEqual(project.counter_models((8, 17, 18, 32, 64))[2], ((8, 17, 18, 32, 64), "s"))
        self.assertIsNone(project.counter_models((41, 41, 42, 42, 64))[2])

    def test_behind_remove_and_undo(self):
        project = project_of(B, Y)
        found = project.counter_models()
        project.remove(0)
        self.assertEqual(project.counter_models(), [None])
        project.undo()
        self.assertEqual(project.counter_models(), found)
        found.clear()
        self.assertEqual(project.counter_models(), [(LP32[0], "s"), None])
        project.undo()
        self.assertEqual(project.counter_models(), [])

    def test_wrong_minima(self):
        for project in (Project([]), project_of(A, D)):
            for minima, index in (((), None), ((2,) * 6, None), ((1, 2, 2, 2, 2), 0), ((8, 16, 15, 32, 64), 2),
                                  ((8, 16, 16, 32, 129), 4)):
                self.assertEqual(raised(project.counter_models, minima), (InvalidModel, index))
                self.assertEqual(raised(project.counter_models, minima=minima), (InvalidModel, index))


class OfTexts(unittest.TestCase):
    TEXT = "x ushort 0 60000, y int -5 5"

    def test_written_out(self):
        project = Project.of_texts(self.TEXT, ["(x + y)", "(neg x)", "(x < y)", "x", "x"])
        self.assertIsInstance(project, Project)
        self.assertEqual(project.expressions, [A, B, C, X, X])
        self.assertEqual(project, project_of(A, B, C, X, X))
        self.assertEqual(Project.of_texts(self.TEXT, []), Project(VARIABLES))
        self.assertEqual(Project.of_texts("none", ["5", "(neg 1u)"]).expressions,
                         [("lit", 5, ""), ("neg", ("lit", 1, "u"))])

    def test_class_method(self):
        self.assertIsInstance(inspect.getattr_static(Project, "of_texts"), classmethod)
        self.assertEqual(Project.of_texts(texts=["x"], variables_text=self.TEXT), project_of(X))
        # Also off an object, which it leaves as it was.
        project = project_of(A)
        self.assertEqual(project.of_texts("none", ["5"]).expressions, [("lit", 5, "")])
        self.assertEqual(project.expressions, [A])

    def test_nothing_can_be_undone_of_it(self):
        project = Project.of_texts(self.TEXT, ["x", "y"])
        self.assertEqual(raised(project.undo), (NothingToUndo, 0))
        self.assertEqual(project.expressions, [X, Y])
        project.remove(0)
        project.add(A)
        project.undo()
        project.undo()
        self.assertEqual(project.expressions, [X, Y])
        self.assertEqual(raised(project.undo), (NothingToUndo, 0))

    def test_texts_are_not_kept(self):
        texts = ["x", "y"]
        project = Project.of_texts(self.TEXT, texts)
        texts.clear()
        self.assertEqual(project.expressions, [X, Y])
        texts = ["x", "(x + x)"]
        self.assertEqual(raised(Project.of_texts, self.TEXT, texts), (InvalidExpression, (1,)))
        self.assertEqual(texts, ["x", "(x + x)"])

    def test_wrong_variables(self):
        for text in ("", "x", "x int 1 0", "x int 0 1, x int 0 1", "x int 0 1,", "None", " none"):
            for texts in ([], ["x"], ["x +"], ["(z)"]):
                self.assertEqual(raised(Project.of_texts, text, texts), (Unreadable, text))

    def test_wrong_texts(self):
        self.assertEqual(raised(Project.of_texts, self.TEXT, ["x", "x +", "(x", "y"]), (Unreadable, "x +"))
        self.assertEqual(raised(Project.of_texts, self.TEXT, [""]), (Unreadable, ""))
        self.assertEqual(raised(Project.of_texts, self.TEXT, ["(x + x)"]), (InvalidExpression, (1,)))
        self.assertEqual(raised(Project.of_texts, self.TEXT, ["x", "(1 + (y * z))"]), (InvalidExpression, (1, 1)))
        self.assertEqual(raised(Project.of_texts, "none", ["x"]), (InvalidExpression, ()))

    def test_text_by_text(self):
        # A wrong text behind one that is wrong for the variables, and ahead of it.
        self.assertEqual(raised(Project.of_texts, self.TEXT, ["y", "(neg z)", "x +"]), (InvalidExpression, (0,)))
        self.assertEqual(raised(Project.of_texts, self.TEXT, ["y", "x +", "(neg z)"]), (Unreadable, "x +"))
        self.assertEqual(raised(Project.of_texts, self.TEXT, ["(neg z)", "(x + x)", "5"]), (InvalidExpression, (0,)))

    def test_drawn(self):
        rng = random.Random(223)
        for _ in range(60):
            trees = [random_tree(rng, ["x", "y"], rng.randrange(3, 12), rng.choice("EC")) for _ in range(5)]
            texts = [show_expression(tree) for tree in trees]
            self.assertEqual(Project.of_texts(self.TEXT, texts).expressions, trees)


class Interface(unittest.TestCase):
    def test_names(self):
        own = vars(Project)
        for name in ("add", "remove", "undo", "verdicts", "counter_models", "__init__", "__eq__"):
            self.assertTrue(inspect.isfunction(own[name]))
        self.assertIsInstance(own["expressions"], property)
        self.assertIsInstance(own["of_texts"], classmethod)
        self.assertEqual(Project.__module__, "castforms.projects")
        for function, parameters in ((Project, "(variables)"), (Project.add, "(self, *expressions)"),
                                     (Project.remove, "(self, index)"), (Project.undo, "(self)"),
                                     (Project.verdicts, "(self, model)"),
                                     (Project.counter_models, "(self, minima=(8, 16, 16, 32, 64))"),
                                     (Project.of_texts, "(variables_text, texts)")):
            self.assertEqual(str(inspect.signature(function)), parameters)

    def test_expressions_are_only_read(self):
        with self.assertRaises(AttributeError):
            Project([]).expressions = []


class Examples(unittest.TestCase):
    def test_example_of_the_document(self):
        project = Project.of_texts('x ushort 0 60000, y int -5 5', ['(x - 1)', '(x << 1)'])
        project.add(('var', 'y'), ('neg', ('var', 'x')))
        gone = project.remove(0)
        self.assertEqual(
            [gone, len(project.expressions), list(project.verdicts(((8, 16, 16, 32, 64), 's')))],
            [('sub', ('var', 'x'), ('lit', 1, '')), 3, [False, True, False]])


if __name__ == "__main__":
    unittest.main()
