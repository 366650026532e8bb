"""Promise 7: types of literals and of nodes, admission."""

import unittest

from castforms.errors import InvalidModel, NotAdmitted
from castforms.expressions import admission, nodes, type_of
from castforms.models import common, limits, promoted
from support import KINDS, LP32, raised

MODELS = [
    LP32, ((8, 16, 32, 32, 64), "s"), ((8, 16, 32, 64, 64), "u"), ((2, 3, 4, 5, 6), "s"), ((16,) * 5, "u"),
    ((2,) * 5, "s"), ((128,) * 5, "s"),
]
SUFFIX_KINDS = {
    "": ["int", "long", "wide"], "l": ["long", "wide"], "w": ["wide"],
    "u": ["uint", "ulong", "uwide"], "ul": ["ulong", "uwide"], "uw": ["uwide"],
}
X, Y = ("var", "x"), ("var", "y")
LESS = ("less", ("lit", 1, ""), ("lit", 0, ""))


def first_kind(model, number, suffix):
    for kind in SUFFIX_KINDS[suffix]:
        if number <= limits(model, kind)[1]:
            return kind
    return None


class Literals(unittest.TestCase):
    def test_every_suffix_at_the_ends(self):
        for model in MODELS:
            numbers = [0, 1, 10 ** 40]
            for kind in KINDS:
                numbers += [limits(model, kind)[1], limits(model, kind)[1] + 1]
            for suffix in SUFFIX_KINDS:
                for number in numbers:
                    with self.subTest(model=model, number=number, suffix=suffix):
                        self.check(model, ("lit", number, suffix), first_kind(model, number, suffix))

    def check(self, model, literal, kind):
        if kind is None:
            self.assertEqual(admission(model, [], literal), ("literal", ()))
            self.assertEqual(raised(type_of, model, [], literal), (NotAdmitted, ("literal", ())))
        else:
            self.assertIsNone(admission(model, [], literal))
            self.assertEqual(type_of(model, [], literal), kind)

    def test_written_out(self):
        cases = [
            (32767, "", "int"), (32768, "", "long"), (2 ** 31 - 1, "", "long"), (2 ** 31, "", "wide"),
            (2 ** 63 - 1, "", "wide"), (2 ** 63, "", None),
            (65535, "u", "uint"), (65536, "u", "ulong"), (2 ** 32 - 1, "u", "ulong"), (2 ** 32, "u", "uwide"),
            (2 ** 64 - 1, "u", "uwide"), (2 ** 64, "u", None),
            (0, "l", "long"), (2 ** 31 - 1, "l", "long"), (2 ** 31, "l", "wide"), (2 ** 63, "l", None),
            (0, "ul", "ulong"), (2 ** 32 - 1, "ul", "ulong"), (2 ** 32, "ul", "uwide"), (2 ** 64, "ul", None),
            (0, "w", "wide"), (2 ** 63 - 1, "w", "wide"), (2 ** 63, "w", None),
            (0, "uw", "uwide"), (2 ** 64 - 1, "uw", "uwide"), (2 ** 64, "uw", None), (10 ** 40, "uw", None),
        ]
        for number, suffix, kind in cases:
            with self.subTest(number=number, suffix=suffix):
                self.check(LP32, ("lit", number, suffix), kind)

    def test_equal_widths(self):
        model = ((8, 16, 64, 64, 64), "s")
        self.check(model, ("lit", 2 ** 63 - 1, ""), "int")
        self.check(model, ("lit", 2 ** 63, ""), None)
        self.check(model, ("lit", 2 ** 63, "u"), "uint")


class Admission(unittest.TestCase):
    def test_ends_of_the_variables(self):
        for model in MODELS:
            for kind in KINDS:
                with self.subTest(model=model, kind=kind):
                    low, high = limits(model, kind)
                    for ends, held in (
                            ((low, high), True), ((low, low), True), ((high, high), True), ((0, 0), True),
                            ((low - 1, high), False), ((low, high + 1), False), ((low - 1, low - 1), False),
                            ((high + 1, high + 1), False), ((low - 1, high + 1), False), ((-10 ** 40, 0), False),
                            ((0, 10 ** 40), False)):
                        self.check(model, [("x", kind) + ends], held)

    def check(self, model, variables, held):
        reason = None if held else ("variable", "x")
        self.assertEqual(admission(model, variables, X), reason)
        self.assertEqual(raised(type_of, model, variables, X), None if held else (NotAdmitted, reason))

    def test_variables_that_do_not_occur(self):
        variables = [("x", "int", 0, 9), ("y", "uint", -1, 9)]
        self.assertEqual(admission(LP32, variables, X), ("variable", "y"))
        self.assertEqual(admission(LP32, variables, ("lit", 1, "")), ("variable", "y"))

    def test_first_variable(self):
        variables = [("b", "int", 0, 9), ("z", "char", 0, 128), ("a", "char", 0, 128)]
        self.assertEqual(admission(LP32, variables, ("add", ("var", "a"), ("var", "z"))), ("variable", "z"))

    def test_variables_ahead_of_literals(self):
        literal = ("lit", 10 ** 30, "")
        self.assertEqual(admission(LP32, [("x", "uint", -1, 0)], ("add", literal, X)), ("variable", "x"))
        self.assertEqual(admission(LP32, [("x", "uint", 0, 0)], ("add", literal, X)), ("literal", (0,)))

    def test_first_literal_in_order(self):
        large, small = ("lit", 10 ** 30, ""), ("lit", 1, "")
        less = ("less", small, ("neg", large))
        self.assertEqual(admission(LP32, [], ("add", ("neg", small), ("sub", small, large))), ("literal", (1, 1)))
        self.assertEqual(admission(LP32, [], ("if", less, large, small)), ("literal", (0, 1, 0)))
        self.assertEqual(admission(LP32, [], ("add", ("neg", ("neg", large)), large)), ("literal", (0, 0, 0)))
        self.assertEqual(admission(LP32, [], ("and", LESS, ("not", ("most", large, small)))), ("literal", (1, 0, 0)))

    def test_reason_is_a_tuple(self):
        self.assertIs(type(admission(LP32, [("x", "uint", -1, 0)], X)), tuple)
        self.assertIs(type(admission(LP32, [], ("lit", 10 ** 30, ""))), tuple)

    def test_char_depends_on_plain(self):
        variables = [("x", "char", 0, 200)]
        self.assertEqual(admission(((8, 16, 16, 32, 64), "s"), variables, X), ("variable", "x"))
        self.assertIsNone(admission(((8, 16, 16, 32, 64), "u"), variables, X))

    def test_condition(self):
        self.assertIsNone(admission(LP32, [], LESS))
        self.assertEqual(admission(LP32, [], ("not", ("less", ("lit", 2 ** 64, "uw"), ("lit", 1, "")))),
                         ("literal", (0, 0)))

    def test_model_first(self):
        self.assertEqual(raised(type_of, ((2, 2), "s"), [("x", "uint", -1, 0)], X), (InvalidModel, None))


class TypesOfNodes(unittest.TestCase):
    def test_variable_and_cast(self):
        for kind in KINDS:
            self.assertEqual(type_of(LP32, [("x", kind, 0, 1)], X), kind)
            self.assertEqual(type_of(LP32, [("x", "ulong", 0, 1)], ("cast", kind, X)), kind)

    def test_promoting_words(self):
        for model in MODELS:
            for kind in KINDS:
                variables = [("x", kind, 0, 1)]
                for expression in (("neg", X), ("shl", X, 1), ("shr", X, 0)):
                    with self.subTest(model=model, kind=kind, expression=expression):
                        self.assertEqual(type_of(model, variables, expression), promoted(model, kind))

    def test_shift_counts_have_no_type(self):
        self.assertEqual(type_of(LP32, [("x", "int", 0, 1)], ("shl", X, 10 ** 40)), "int")

    def test_common_types(self):
        for model in MODELS:
            for first in KINDS:
                for second in KINDS:
                    variables = [("x", first, 0, 1), ("y", second, 0, 1)]
                    for word in (("add",), ("sub",), ("mul",), ("if", LESS)):
                        with self.subTest(model=model, first=first, second=second, word=word):
                            self.assertEqual(type_of(model, variables, word + (X, Y)), common(model, first, second))

    def test_condition_of_an_if_does_not_matter(self):
        less = ("less", ("lit", 1, "uw"), ("lit", 0, "uw"))
        self.assertEqual(type_of(LP32, [], ("if", less, ("lit", 1, ""), ("lit", 1, "u"))), "uint")

    def test_conditions_have_none(self):
        for condition in (LESS, ("most", ("lit", 1, ""), ("lit", 0, "")), ("not", LESS), ("and", LESS, LESS),
                          ("or", LESS, LESS)):
            with self.subTest(condition=condition):
                self.assertIsNone(type_of(LP32, [], condition))

    def test_deep(self):
        variables = [("a", "ushort", 0, 9), ("b", "short", 0, 9), ("c", "long", 0, 9)]
        a, b, c = ("var", "a"), ("var", "b"), ("var", "c")
        tree = ("mul", ("neg", ("cast", "char", c)), ("if", LESS, ("shl", a, 1), b))
        self.assertEqual(type_of(LP32, variables, tree), "uint")
        self.assertEqual(type_of(((8, 16, 32, 32, 64), "s"), variables, tree), "int")
        self.assertEqual(type_of(LP32, variables, ("sub", tree[2], ("neg", c))), "long")
        self.assertEqual(type_of(((8, 16, 16, 16, 64), "s"), variables, ("sub", tree[2], ("neg", c))), "ulong")


class Examples(unittest.TestCase):
    def test_example_of_the_document(self):
        variables = [('x', 'ushort', 0, 60000), ('y', 'long', -9, 9)]
        model = ((8, 16, 16, 32, 64), 's')
        self.assertEqual(
            [list(nodes(variables, ('neg', ('var', 'x')))), type_of(model, variables, ('neg', ('var', 'x'))),
             type_of(model, variables, ('add', ('var', 'x'), ('var', 'y'))),
             admission(((8, 15, 16, 32, 64), 's'), variables, ('lit', 5, '')),
             type_of(model, [], ('lit', 40000, ''))],
            [[((), ('neg', ('var', 'x'))), ((0,), ('var', 'x'))], 'uint', 'long', ('variable', 'x'), 'long'])


if __name__ == "__main__":
    unittest.main()
