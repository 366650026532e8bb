"""Texts of expressions and conditions, of variables, and of models."""

import random
import unittest

from castforms.texts import show_expression, show_model, show_variables
from support import CONDITIONS, KINDS, SUFFIX_KINDS, all_models, all_nodes, parts_of, random_tree, random_variables

X, Y, FIVE = ("var", "x"), ("var", "y"), ("lit", 5, "")
LESS = ("less", X, Y)
SIGNS = {"add": "+", "sub": "-", "mul": "*", "shl": "<<", "shr": ">>", "less": "<", "most": "<=", "and": "and",
         "or": "or"}


def text_by_promise(node):
    """The text of a node as the interface says it, word by word."""
    word, parts = node[0], [text_by_promise(part) for part in parts_of(node)]
    if word in ("var", "lit"):
        return node[1] if word == "var" else str(node[1]) + node[2]
    if word == "cast":
        return "(cast %s %s)" % (node[1], parts[0])
    if word in ("neg", "not"):
        return "(%s %s)" % (word, parts[0])
    if word == "if":
        return "(%s ? %s : %s)" % tuple(parts)
    if word in ("shl", "shr"):
        return "(%s %s %d)" % (parts[0], SIGNS[word], node[2])
    return "(%s %s %s)" % (parts[0], SIGNS[word], parts[1])


class Expressions(unittest.TestCase):
    def test_every_word(self):
        for node, text in (
                (X, "x"), (("var", "abcdefgh"), "abcdefgh"), (FIVE, "5"), (("cast", "uwide", X), "(cast uwide x)"),
                (("neg", X), "(neg x)"), (("add", X, FIVE), "(x + 5)"), (("sub", FIVE, X), "(5 - x)"),
                (("mul", X, Y), "(x * y)"), (("shl", X, 0), "(x << 0)"), (("shr", FIVE, 200), "(5 >> 200)"),
                (("if", LESS, X, Y), "((x < y) ? x : y)"), (LESS, "(x < y)"), (("most", Y, X), "(y <= x)"),
                (("not", LESS), "(not (x < y))"), (("and", LESS, ("most", Y, X)), "((x < y) and (y <= x))"),
                (("or", ("not", LESS), LESS), "((not (x < y)) or (x < y))")):
            with self.subTest(text=text):
                self.assertEqual(show_expression(node), text)
                self.assertEqual(text_by_promise(node), text)

    def test_literals(self):
        for suffix in SUFFIX_KINDS:
            for number in (0, 1, 9, 10, 100, 2 ** 64, 10 ** 40):
                self.assertEqual(show_expression(("lit", number, suffix)), str(number) + suffix)
        self.assertEqual(show_expression(("lit", 10 ** 40, "uw")), "1" + "0" * 40 + "uw")
        self.assertEqual(show_expression(("neg", ("lit", 10 ** 41 - 1, "l"))), "(neg " + "9" * 41 + "l)")

    def test_casts(self):
        for kind in KINDS:
            self.assertEqual(show_expression(("cast", kind, ("lit", 1, "u"))), "(cast " + kind + " 1u)")
            self.assertEqual(show_expression(("cast", "int", ("cast", kind, X))), "(cast int (cast " + kind + " x))")

    def test_deep_ones(self):
        tree, text = X, "x"
        for _ in range(99):
            tree, text = ("neg", tree), "(neg " + text + ")"
            self.assertEqual(show_expression(tree), text)
        for number in range(100):
            tree, text = (("shl", tree, number), "(" + text + " << " + str(number) + ")") if number % 2 else (
                ("if", LESS, tree, FIVE), "((x < y) ? " + text + " : 5)")
            self.assertEqual(show_expression(tree), text)

    def test_drawn(self):
        rng = random.Random(191)
        words = set()
        for number in range(600):
            tree = random_tree(rng, list("abcdefgh"), rng.randrange(3, 40), "EEC"[number % 3], (0, 7, 10 ** 40),
                               (0, 1, 31, 200))
            self.assertEqual(show_expression(tree), text_by_promise(tree))
            words.update(node[0] for node in all_nodes(tree))
        self.assertEqual(len(words), 15)
        self.assertTrue(set(CONDITIONS) <= words)


class Variables(unittest.TestCase):
    def test_written_out(self):
        for variables, text in (
                ([], "none"), ([("x", "char", -5, 5)], "x char -5 5"), ([("x", "uwide", 0, 0)], "x uwide 0 0"),
                ([("abcdefgh", "int", -10 ** 40, 10 ** 40)], "abcdefgh int -1" + "0" * 40 + " 1" + "0" * 40),
                ([("y", "schar", -9, -9), ("x", "ulong", 3, 60000)], "y schar -9 -9, x ulong 3 60000")):
            with self.subTest(text=text):
                self.assertEqual(show_variables(variables), text)

    def test_eight(self):
        rng = random.Random(192)
        for _ in range(100):
            variables = random_variables(rng, 8, reach=10 ** rng.randrange(1, 41))
            text = show_variables(variables)
            self.assertEqual([tuple(words.split(" ")) for words in text.split(", ")],
                             [tuple(map(str, row)) for row in variables])


class Models(unittest.TestCase):
    def test_written_out(self):
        for model, text in ((((8, 16, 32, 64, 64), "s"), "8 16 32 64 64 s"), (((2, 2, 2, 2, 2), "u"), "2 2 2 2 2 u"),
                            (((8, 99, 100, 128, 128), "u"), "8 99 100 128 128 u")):
            self.assertEqual(show_model(model), text)

    def test_all_with_small_widths(self):
        texts = [show_model(model) for model in all_models((2,) * 5, 5)]
        self.assertEqual(len(set(texts)), len(texts))
        self.assertEqual(sorted(texts), [" ".join(map(str, model[0])) + " " + model[1]
                                         for model in all_models((2,) * 5, 5)])


class Examples(unittest.TestCase):
    def test_example_of_the_document(self):
        self.assertEqual(
            [show_expression(('if', ('less', ('var', 'x'), ('lit', 10, 'ul')), ('shl', ('var', 'y'), 3),
                              ('cast', 'uint', ('neg', ('lit', 5, ''))))),
             show_variables([('x', 'char', -5, 5)]), show_model(((8, 16, 32, 64, 64), 's'))],
            ['((x < 10ul) ? (y << 3) : (cast uint (neg 5)))', 'x char -5 5', '8 16 32 64 64 s'])


if __name__ == "__main__":
    unittest.main()
