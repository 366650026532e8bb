"""Promise 6: nodes, paths and their order, the Variables check and the Expression check."""

import unittest

from castforms.errors import InvalidExpression, InvalidModel, InvalidVariables, NotAdmitted
from castforms.expressions import admission, nodes, type_of
from support import KINDS, LP32, raised

VARIABLES = [("x", "int", 0, 9), ("y", "int", 0, 9), ("z", "int", 0, 9), ("v", "int", 0, 9)]
X, Y, Z, V = ("var", "x"), ("var", "y"), ("var", "z"), ("var", "v")
ONE, TWO = ("lit", 1, ""), ("lit", 2, "")
LESS, MOST = ("less", X, Y), ("most", Z, V)


def listed(variables, expression):
    return list(nodes(variables, expression))


def paths(expression):
    return [path for path, _ in nodes(VARIABLES, expression)]


class Nodes(unittest.TestCase):
    def test_every_word(self):
        cases = [
            (X, [((), X)]),
            (ONE, [((), ONE)]),
            (("cast", "long", X), [((), ("cast", "long", X)), ((0,), X)]),
            (("neg", X), [((), ("neg", X)), ((0,), X)]),
            (("add", X, Y), [((), ("add", X, Y)), ((0,), X), ((1,), Y)]),
            (("sub", X, ONE), [((), ("sub", X, ONE)), ((0,), X), ((1,), ONE)]),
            (("mul", TWO, Y), [((), ("mul", TWO, Y)), ((0,), TWO), ((1,), Y)]),
            (("shl", X, 3), [((), ("shl", X, 3)), ((0,), X)]),
            (("shr", X, 0), [((), ("shr", X, 0)), ((0,), X)]),
            (("if", MOST, X, Y),
             [((), ("if", MOST, X, Y)), ((0,), MOST), ((0, 0), Z), ((0, 1), V), ((1,), X), ((2,), Y)]),
            (LESS, [((), LESS), ((0,), X), ((1,), Y)]),
            (MOST, [((), MOST), ((0,), Z), ((1,), V)]),
            (("not", LESS), [((), ("not", LESS)), ((0,), LESS), ((0, 0), X), ((0, 1), Y)]),
            (("and", LESS, MOST),
             [((), ("and", LESS, MOST)), ((0,), LESS), ((0, 0), X), ((0, 1), Y), ((1,), MOST), ((1, 0), Z),
              ((1, 1), V)]),
            (("or", MOST, LESS),
             [((), ("or", MOST, LESS)), ((0,), MOST), ((0, 0), Z), ((0, 1), V), ((1,), LESS), ((1, 0), X),
              ((1, 1), Y)]),
        ]
        for expression, expected in cases:
            with self.subTest(expression=expression):
                self.assertEqual(listed(VARIABLES, expression), expected)

    def test_deep_order(self):
        tree = ("sub", ("if", ("not", LESS), ("shl", Z, 1), ONE), ("mul", ("neg", V), ("cast", "uint", TWO)))
        self.assertEqual(paths(tree), [
            (), (0,), (0, 0), (0, 0, 0), (0, 0, 0, 0), (0, 0, 0, 1), (0, 1), (0, 1, 0), (0, 2),
            (1,), (1, 0), (1, 0, 0), (1, 1), (1, 1, 0)])

    def test_long_chain(self):
        chain = X
        for _ in range(60):
            chain = ("neg", chain)
        self.assertEqual(paths(chain), [(0,) * depth for depth in range(61)])

    def test_kinds_of_what_is_yielded(self):
        for row in nodes(VARIABLES, ("add", X, Y)):
            self.assertEqual([type(row), type(row[0]), type(row[1])], [tuple, tuple, tuple])

    def test_early_stop(self):
        walk = nodes(VARIABLES, ("add", X, ("mul", Y, Z)))
        self.assertEqual([next(walk)[0], next(walk)[0]], [(), (0,)])
        walk.close()
        self.assertEqual(list(walk), [])
        self.assertEqual(len(listed(VARIABLES, ("add", X, ("mul", Y, Z)))), 5)

    def test_two_walks_at_the_same_time(self):
        one, other = nodes(VARIABLES, ("add", X, Y)), nodes(VARIABLES, ("neg", ("neg", X)))
        mixed = [next(one)[0], next(other)[0], next(other)[0], next(one)[0], next(other)[0], next(one)[0]]
        self.assertEqual(mixed, [(), (), (0,), (0,), (0, 0), (1,)])
        self.assertEqual([list(one), list(other)], [[], []])

    def test_two_walks_over_one_expression(self):
        tree = ("add", X, Y)
        pairs = [(a, b) for a, _ in nodes(VARIABLES, tree) for b, _ in nodes(VARIABLES, tree)]
        self.assertEqual(pairs, [(a, b) for a in ((), (0,), (1,)) for b in ((), (0,), (1,))])

    def test_is_lazy_or_checks_at_once(self):
        walk = None
        with self.assertRaises(InvalidExpression):
            walk = nodes(VARIABLES, ("var", "q"))
            next(walk)


class VariablesCheck(unittest.TestCase):
    def check(self, variables, index):
        with self.subTest(variables=variables):
            expected = (InvalidVariables, index)
            self.assertEqual(raised(listed, variables, ONE), expected)
            self.assertEqual(raised(admission, LP32, variables, ONE), expected)
            self.assertEqual(raised(type_of, LP32, variables, ONE), expected)

    def test_wrong_names(self):
        names = KINDS + [
            "", "not", "and", "or", "cast", "neg", "none", "abcdefghi", "abcdefghij", "X", "xY", "x1", "1", "x_", "_",
            "x y", " x", "x ", "x-y", "x.", "`", "{", "\u00e4", "\u00df", "x\n",
        ]
        for name in names:
            self.check([(name, "int", 0, 1)], 0)
            self.check([("a", "int", 0, 1), ("b", "int", 0, 1), (name, "int", 0, 1)], 2)

    def test_right_names(self):
        names = ["a", "z", "abcdefgh", "if", "var", "lit", "add", "less", "most", "nots", "u", "ul", "inta", "uu"]
        for name in names:
            with self.subTest(name=name):
                self.assertEqual(listed([(name, "int", 0, 1)], ("var", name)), [((), ("var", name))])

    def test_all_letters(self):
        for letter in "abcdefghijklmnopqrstuvwxyz":
            self.assertIsNone(raised(listed, [(letter * 8, "int", 0, 1)], ONE))

    def test_name_that_stood_before(self):
        self.check([("x", "int", 0, 1), ("x", "int", 0, 1)], 1)
        self.check([("x", "int", 0, 1), ("y", "int", 0, 1), ("z", "int", 0, 1), ("y", "long", 2, 3)], 3)

    def test_wrong_types(self):
        for kind in ("", "Int", "integer", "x", "none", "int ", "unsigned int"):
            self.check([("x", kind, 0, 1)], 0)
            self.check([("x", "int", 0, 1), ("y", kind, 0, 1)], 1)

    def test_right_types(self):
        for kind in KINDS:
            self.assertIsNone(raised(listed, [("x", kind, 0, 1)], X))

    def test_low_and_high(self):
        self.check([("x", "int", 1, 0)], 0)
        self.check([("x", "int", 0, 0), ("y", "int", 10 ** 40, 10 ** 40 - 1)], 1)
        self.check([("x", "int", 0, -1)], 0)
        for low, high in ((0, 0), (-1, -1), (-10 ** 40, 10 ** 40), (10 ** 40, 10 ** 40)):
            self.assertIsNone(raised(listed, [("x", "int", low, high)], X))

    def test_first_of_several(self):
        self.check([("x", "int", 0, 1), ("y", "int", 1, 0), ("x", "none", 0, 1)], 1)
        self.check([("x", "int", 0, 1), ("x", "int", 0, 1), ("Y", "int", 0, 1)], 1)
        self.check([("x", "int", 0, 1), ("y", "in", 0, 1), ("z", "int", 3, 1)], 1)

    def test_none_and_many_variables(self):
        self.assertEqual(listed([], ONE), [((), ONE)])
        many = [(letter, "int", 0, 1) for letter in "abcdefghijklm"]
        self.assertIsNone(raised(listed, many, ("var", "m")))

    def test_ahead_of_the_expression(self):
        self.check([("x", "int", 1, 0)], 0)
        wrong = [("x", "int", 1, 0)]
        self.assertEqual(raised(listed, wrong, ("what",)), (InvalidVariables, 0))
        self.assertEqual(raised(type_of, LP32, wrong, ("what",)), (InvalidVariables, 0))

    def test_behind_the_model(self):
        wrong = [("x", "int", 1, 0)]
        for function in (admission, type_of):
            self.assertEqual(raised(function, ((8, 16, 16, 32), "s"), wrong, ("what",)), (InvalidModel, None))
            self.assertEqual(raised(function, ((8, 16, 16, 32, 2), "s"), [], ("what",)), (InvalidModel, 4))
            self.assertEqual(raised(function, (LP32[0], "n"), wrong, ("what",)), (InvalidModel, None))


class ExpressionCheck(unittest.TestCase):
    def check(self, expression, path):
        with self.subTest(expression=expression):
            expected = (InvalidExpression, path)
            self.assertEqual(raised(listed, VARIABLES, expression), expected)
            self.assertEqual(raised(admission, LP32, VARIABLES, expression), expected)
            self.assertEqual(raised(type_of, LP32, VARIABLES, expression), expected)

    def check_expression(self, wrong):
        """A wrong expression as the whole and within others; v is free for the others."""
        self.check(wrong, ())
        self.check(("neg", wrong), (0,))
        self.check(("add", V, ("cast", "int", wrong)), (1, 0))
        self.check(("if", ("most", V, ONE), TWO, wrong), (2,))
        self.check(("if", ("not", ("or", ("less", ONE, TWO), ("most", ONE, ("shl", wrong, 2)))), V, TWO),
                   (0, 0, 1, 1, 0))

    def check_condition(self, wrong):
        """A wrong condition as the whole and within others; v is free for the others."""
        self.check(wrong, ())
        self.check(("not", wrong), (0,))
        self.check(("if", ("and", ("less", V, ONE), wrong), ONE, TWO), (0, 1))
        self.check(("mul", ONE, ("if", ("or", wrong, ("less", V, ONE)), ONE, TWO)), (1, 0, 0))

    def test_wrong_words(self):
        for wrong in (("what",), ("",), (), ("Var", "x"), ("variable", "x"), ("+", X, Y), ("div", X, Y), ("int", X),
                      ("xor", X, Y), ("neg ", X)):
            self.check_expression(wrong)
        for wrong in (("what", X, Y), (), ("<", X, Y), ("equal", X, Y), ("xor", LESS, MOST), ("Not", LESS)):
            self.check_condition(wrong)

    def test_no_tuples_where_nodes_are_needed(self):
        for wrong in ("x", "", 5, None, ["var", "x"]):
            self.check_expression(wrong)
            self.check_condition(wrong)

    def test_items_in_another_order(self):
        self.check_expression(("cast", X, "int"))
        self.check_expression(("shl", 1, X))
        self.check_expression(("lit", "", 1))

    def test_wrong_numbers_of_items(self):
        for wrong in (
                ("var",), ("var", "x", "y"), ("lit",), ("lit", 1), ("lit", 1, "", ""), ("cast",), ("cast", "int"),
                ("cast", "int", X, Y), ("neg",), ("neg", X, Y), ("add",), ("add", X), ("add", X, Y, Z), ("sub", X),
                ("sub", X, Y, Z), ("mul", X), ("mul", X, Y, Z), ("shl", X), ("shl", X, 1, 2), ("shr", X),
                ("shr", X, 1, 2), ("if",), ("if", LESS), ("if", LESS, Z), ("if", LESS, Z, ONE, TWO)):
            self.check_expression(wrong)
        for wrong in (
                ("less",), ("less", X), ("less", X, Y, Z), ("most",), ("most", X), ("most", X, Y, Z), ("not",),
                ("not", LESS, ("less", Z, ONE)), ("and",), ("and", LESS), ("and", LESS, LESS, LESS), ("or",),
                ("or", LESS), ("or", LESS, LESS, LESS)):
            self.check_condition(wrong)

    def test_wrong_names(self):
        for name in ("q", "", "X", "xx", "int", "x "):
            self.check_expression(("var", name))
        self.assertEqual(raised(listed, [], X), (InvalidExpression, ()))
        self.assertEqual(raised(listed, [], ("add", ONE, X)), (InvalidExpression, (1,)))

    def test_wrong_numbers(self):
        for number in (-1, -2, -10 ** 40):
            self.check_expression(("lit", number, ""))
            self.check_expression(("lit", number, "uw"))
            self.check_expression(("shl", X, number))
            self.check_expression(("shr", X, number))

    def test_right_numbers(self):
        for number in (0, 1, 200, 10 ** 40):
            self.assertIsNone(raised(listed, VARIABLES, ("lit", number, "")))
            self.assertIsNone(raised(listed, VARIABLES, ("shl", X, number)))
            self.assertIsNone(raised(listed, VARIABLES, ("shr", X, number)))

    def test_suffixes(self):
        for suffix in ("U", "lu", "ll", "wu", "x", " ", "u ", "none", "lw", "uu"):
            self.check_expression(("lit", 1, suffix))
        for suffix in ("", "u", "l", "ul", "w", "uw"):
            self.assertEqual(listed([], ("lit", 1, suffix)), [((), ("lit", 1, suffix))])

    def test_types(self):
        for kind in ("", "Int", "integer", "none", "x", "unsigned"):
            self.check_expression(("cast", kind, X))
        for kind in KINDS:
            self.assertIsNone(raised(listed, VARIABLES, ("cast", kind, X)))

    def test_condition_where_an_expression_is_needed(self):
        for condition in (LESS, ("most", X, Y), ("not", LESS), ("and", LESS, LESS), ("or", LESS, LESS)):
            for whole, path in (
                    (("cast", "int", condition), (0,)), (("neg", condition), (0,)), (("add", condition, Z), (0,)),
                    (("add", Z, condition), (1,)), (("sub", condition, Z), (0,)), (("sub", Z, condition), (1,)),
                    (("mul", condition, Z), (0,)), (("mul", Z, condition), (1,)), (("shl", condition, 1), (0,)),
                    (("shr", condition, 1), (0,)), (("if", ("less", Z, V), condition, ONE), (1,)),
                    (("if", ("less", Z, V), ONE, condition), (2,)), (("less", condition, Z), (0,)),
                    (("less", Z, condition), (1,)), (("most", condition, Z), (0,)), (("most", Z, condition), (1,)),
                    (("neg", ("neg", ("neg", condition))), (0, 0, 0))):
                self.check(whole, path)

    def test_expression_where_a_condition_is_needed(self):
        expressions = (
            X, ONE, ("cast", "int", X), ("neg", X), ("add", X, Y), ("sub", X, Y), ("mul", X, Y), ("shl", X, 1),
            ("shr", X, 1), ("if", LESS, ONE, TWO))
        for expression in expressions:
            for whole, path in (
                    (("if", expression, Z, V), (0,)), (("not", expression), (0,)),
                    (("and", expression, MOST), (0,)), (("and", MOST, expression), (1,)),
                    (("or", expression, MOST), (0,)), (("or", MOST, expression), (1,)),
                    (("neg", ("if", ("not", ("not", expression)), Z, V)), (0, 0, 0, 0))):
                self.check(whole, path)

    def test_name_that_stood_before(self):
        self.check(("add", X, X), (1,))
        self.check(("less", X, X), (1,))
        self.check(("if", ("less", X, Y), ("neg", Y), X), (1, 0))
        self.check(("add", ("mul", X, Y), ("sub", Z, ("shr", Y, 1))), (1, 1, 0))
        self.check(("and", LESS, ("not", ("most", V, X))), (1, 0, 1))

    def test_first_of_two_wrong_nodes(self):
        self.check(("add", ("var", "q"), ("lit", -1, "")), (0,))
        self.check(("add", ("neg", ("lit", -1, "")), ("var", "q")), (0, 0))
        self.check(("add", ("neg", X), ("sub", ("neg", X), ("var", "q"))), (1, 0, 0))
        self.check(("cast", "what", ("var", "q")), ())
        self.check(("shl", ("var", "q"), -1), ())
        self.check(("add", ("var", "q")), ())
        self.check(("if", X, ("var", "q"), LESS), (0,))
        self.check(("if", LESS, ("cast", "no", X), ("var", "q")), (1,))
        self.check(("less", ("neg", ("neg", ("lit", 5, "z"))), ("what",)), (0, 0, 0))

    def test_path_is_a_tuple(self):
        with self.assertRaises(InvalidExpression) as caught:
            listed(VARIABLES, ("add", X, ("var", "q")))
        self.assertIs(type(caught.exception.value), tuple)

    def test_names_are_free_again_in_the_next_call(self):
        for _ in range(3):
            self.assertEqual(paths(("add", X, Y)), [(), (0,), (1,)])

    def test_ahead_of_the_admission(self):
        unheld = [("x", "int", 0, 10 ** 9)]
        self.assertEqual(raised(type_of, LP32, unheld, ("neg", ("var", "y"))), (InvalidExpression, (0,)))
        self.assertEqual(raised(admission, LP32, unheld, ("lit", 10 ** 40, "z")), (InvalidExpression, ()))
        self.assertEqual(raised(type_of, LP32, unheld, X), (NotAdmitted, ("variable", "x")))


if __name__ == "__main__":
    unittest.main()
