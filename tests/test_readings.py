"""Expressions, variables and models with given texts; texts that none has."""

import random
import re
import unittest

from castforms.errors import Unreadable
from castforms.readings import read_expression, read_model, read_variables
from castforms.texts import show_expression, show_model, show_variables
from support import KINDS, SUFFIX_KINDS, all_models, raised, random_tree, random_variables

X, Y = ("var", "x"), ("var", "y")
LESS = ("less", X, Y)
SIGNS = [chr(number) for number in range(32, 127)]
NO_NAMES = KINDS + ["not", "and", "or", "cast", "neg", "none"]
WORDS = {"+": "add", "-": "sub", "*": "mul", "<<": "shl", ">>": "shr", "<": "less", "<=": "most"}
KIND, E, C, NUMBER = "(" + "|".join(KINDS) + ")", "(E[0-9]+;)", "(C[0-9]+;)", "(0|[1-9][0-9]{0,49})"
# For each kind of text between brackets what it is, E or C, and how it becomes a node.
FORMS = [
    (rf"\(cast {KIND} {E}\)", "E", lambda kind, part: ("cast", kind, part)),
    (rf"\(neg {E}\)", "E", lambda part: ("neg", part)),
    (rf"\({E} ([+*-]) {E}\)", "E", lambda first, sign, second: (WORDS[sign], first, second)),
    (rf"\({E} (<<|>>) {NUMBER}\)", "E", lambda part, sign, count: (WORDS[sign], part, int(count))),
    (rf"\({C} \? {E} : {E}\)", "E", lambda condition, first, second: ("if", condition, first, second)),
    (rf"\({E} (<=?) {E}\)", "C", lambda first, sign, second: (WORDS[sign], first, second)),
    (rf"\(not {C}\)", "C", lambda part: ("not", part)),
    (rf"\({C} (and|or) {C}\)", "C", lambda first, word, second: (word, first, second)),
]


def expression_of(text):
    """The expression or condition with a text, None if there is none, in another way.

    From within, each text of a node is replaced by its form and a number.
    """
    found = []

    def named(form, node):
        found.append(node)
        return form + str(len(found) - 1) + ";"

    def leaf(match):
        if match.group(1) is not None:
            return match.group(0) if match.group(1) in NO_NAMES else named("E", ("var", match.group(1)))
        return named("E", ("lit", int(match.group(2)), match.group(3)))

    def bracket(match):
        for pattern, form, made in FORMS:
            fitting = re.fullmatch(pattern, match.group(0))
            if fitting:
                return named(form, made(*[found[int(word[1:-1])] if word[0] in "EC" else word
                                          for word in fitting.groups()]))
        return "!"

    if re.search("[A-Z!;]", text):
        return None
    # The count of a shift is no literal.
    left = re.sub(r"(?<![^ (])(?<!<< )(?<!>> )(?:([a-z]{1,8})|(0|[1-9][0-9]{0,49})(|u|l|ul|w|uw))(?![^ )])", leaf, text)
    while "(" in left and "!" not in left:
        shorter = re.sub(r"\([^()]*\)", bracket, left)
        if shorter == left:
            return None
        left = shorter
    return found[int(left[1:-1])] if re.fullmatch("[EC][0-9]+;", left) else None


def changed_texts(text, signs=SIGNS):
    """All texts with one character left out, put in or exchanged."""
    found = {text[:at] + text[at + 1:] for at in range(len(text))}
    found.update(text[:at] + sign + text[at:] for at in range(len(text) + 1) for sign in signs)
    found.update(text[:at] + sign + text[at + 1:] for at in range(len(text)) for sign in signs)
    return sorted(found)


class Expressions(unittest.TestCase):
    def check(self, text):
        """Against the other way to read a text; returns whether there is an expression with it."""
        wanted = expression_of(text)
        if wanted is None:
            self.assertEqual(raised(read_expression, text), (Unreadable, text))
        else:
            self.assertEqual(read_expression(text), wanted)
            self.assertEqual(show_expression(wanted), text)
        return wanted is not None

    def check_wrong(self, *texts):
        for text in texts:
            with self.subTest(text=text):
                self.assertEqual(raised(read_expression, text), (Unreadable, text))
                self.assertIsNone(expression_of(text))

    def test_every_word(self):
        for text, node in (
                ("x", X), ("abcdefgh", ("var", "abcdefgh")), ("5", ("lit", 5, "")), ("0", ("lit", 0, "")),
                ("10ul", ("lit", 10, "ul")), ("(cast char x)", ("cast", "char", X)), ("(neg x)", ("neg", X)),
                ("(x + y)", ("add", X, Y)), ("(x - y)", ("sub", X, Y)), ("(x * y)", ("mul", X, Y)),
                ("(x << 3)", ("shl", X, 3)), ("(x >> 0)", ("shr", X, 0)), ("(x < y)", LESS),
                ("(x <= y)", ("most", X, Y)), ("((x < y) ? y : x)", ("if", LESS, Y, X)),
                ("(not (x < y))", ("not", LESS)),
                ("((x < y) and (x < y))", ("and", LESS, LESS)), ("((x < y) or (x < y))", ("or", LESS, LESS))):
            self.assertTrue(self.check(text))
            self.assertEqual(read_expression(text), node)

    def test_drawn(self):
        rng = random.Random(201)
        for number in range(800):
            tree = random_tree(rng, list("abcdefgh"), rng.randrange(3, 40), "EEC"[number % 3], (0, 7, 10, 10 ** 49),
                               (0, 1, 31, 200, 10 ** 49))
            text = show_expression(tree)
            self.assertEqual(read_expression(text), tree)
            self.assertEqual(expression_of(text), tree)

    def test_one_character_changed(self):
        for text in ("x", "17ul", "(cast uint x)", "(neg 5)", "(x + 10)", "(a - b)", "(c * 0w)", "(x << 20)",
                     "(x >> 3)", "(x < y)", "(x <= 7)", "(not (x < 1))", "((x < y) and (y <= x))",
                     "((x < y) or (y < 5u))", "((x < 1) ? y : 2)"):
            readable = sum(self.check(changed) for changed in changed_texts(text))
            self.assertGreater(readable, 2)

    def test_one_character_changed_in_a_longer_text(self):
        text = "((not ((a < 10ul) or (b <= (neg c)))) ? (cast uint (d << 30)) : ((e - 0w) * (f >> 4)))"
        self.assertTrue(self.check(text))
        for changed in changed_texts(text, " ()05ulwx+-<>=?:"):
            self.check(changed)

    def test_drawn_texts(self):
        rng = random.Random(202)
        pieces = ["(", "(", ")", ")", " ", " ", " ", "x", "y", "5", "0", "u", "neg ", "cast ", "int ", "not ", " + ",
                  " < ", " ? ", " : ", " << 1", " and ", "(x < y)", "(neg x)"]
        readable = 0
        for _ in range(20000):
            readable += self.check("".join(rng.choice(pieces) for _ in range(rng.randrange(7))))
        self.assertGreater(readable, 200)

    def test_names(self):
        for name in ("a", "z", "nota", "casts", "orx", "ab", "ints", "nones", "iff", "longlong", "negneg"):
            self.assertEqual(read_expression(name), ("var", name))
            self.assertEqual(read_expression("(neg " + name + ")"), ("neg", ("var", name)))
        for name in NO_NAMES + ["abcdefghi", "", "X", "a_b", "a1", "1a", "x'", "a-b", "if!", "\u00e9"]:
            self.check_wrong(name, "(neg " + name + ")", "(" + name + " + 1)", "(1 + " + name + ")")
        # These words stand for nothing here.
        for name in ("if", "var", "lit", "add", "less", "most", "shl", "x", "u", "ul"):
            self.assertEqual(read_expression(name), ("var", name))

    def test_a_name_several_times(self):
        self.assertEqual(read_expression("((x + x) * x)"), ("mul", ("add", X, X), X))
        self.assertEqual(read_expression("((x < x) ? x : x)"), ("if", ("less", X, X), X, X))

    def test_brackets(self):
        self.check_wrong("(x)", "(5)", "((x + y))", "(((x + y)))", "x + y", "(x + y", "x + y)", "(x + y))", "((x + y)",
                         "()", "(", ")", ")(", "(x)(y)", "(x + y)(x + y)", "(x + y) (x + y)", "neg x", "(neg (x))",
                         "((x) + y)", "cast int x", "(cast (int) x)", "(x << (3))", "x < y", "(not x < y)",
                         "((x < y) ? (x) : y)", "(x < y) ? x : y", "(x + y + 1)", "(x * y + 1)", "(neg neg x)")

    def test_spaces(self):
        self.check_wrong("", " ", "  ", " x", "x ", "5 ", " (x + y)", "(x + y) ", "(x  + y)", "(x +  y)", "(x+ y)",
                         "(x +y)", "(x+y)", "( x + y)", "(x + y )", "(neg  x)", "(negx)", "(neg(neg x))", "(cast intx)",
                         "(cast  int x)", "(castint x)", "(cast int(neg x))", "((x < y)? x : y)", "((x < y) ?x : y)",
                         "((x < y) ? x: y)", "((x < y) ? x :y)", "(not(x < y))", "((x < y)and (x < y))", "(x < < y)",
                         "(x < = y)", "(x <<3)", "(x<< 3)", "10 ul", "(x +\ty)", "(x +\ny)", "x\n")

    def test_numbers(self):
        nines = "9" * 50
        for text, number in (("0", 0), ("9", 9), (nines, 10 ** 50 - 1), ("1" + "0" * 49, 10 ** 49)):
            for suffix in SUFFIX_KINDS:
                self.assertEqual(read_expression(text + suffix), ("lit", number, suffix))
            self.assertEqual(read_expression("(x >> " + text + ")"), ("shr", X, number))
        for digits in ("00", "01", "007", "0" * 50, nines + "9", "1" + "0" * 50, "0" + nines, "-1", "-0", "+1", "1_0",
                       "1.0", "0x1", "1e3", "\u0663", "\u00b2", "1" * 2000):
            self.check_wrong(digits, digits + "u", "(neg " + digits + ")", "(x << " + digits + ")")

    def test_suffixes(self):
        self.check_wrong(*["5" + suffix for suffix in ("lu", "wu", "ll", "uu", "ww", "wl", "lw", "ulw", "U", "L", "s",
                                                       "i", "z", "-u", "u5")])
        self.check_wrong("(x << 3u)", "(x << 3l)", "(x >> 3ul)", "(x >> 1w)", "u5", "(neg 5lu)")

    def test_shift_counts(self):
        self.check_wrong("(x << y)", "(x >> y)", "(x << )", "(x <<)", "(x << -1)", "(x << (1 + 2))", "(x << 03)",
                         "(3 << x)", "(<< 3)", "(x <<< 3)", "(x >>> 3)", "((x < y) << 1)")

    def test_casts(self):
        self.check_wrong("(cast byte x)", "(cast x)", "(cast int)", "(cast  x)", "(cast x int)", "(cast cast x)",
                         "(cast Int x)", "(cast 5 x)", "(cast int (x < y))", "(int x)", "(cast int x y)",
                         "(cast (cast int x) y)", "(cast (x < y) x)")

    def test_conditions_for_expressions(self):
        self.check_wrong("((x < y) + 1)", "(1 - (x < y))", "(neg (x < y))", "((x < y) < y)", "(x <= (x < y))",
                         "((x < y) ? (x < y) : 1)", "((x < y) ? 1 : (not (x < y)))", "((x < y) * (x < y))")

    def test_expressions_for_conditions(self):
        self.check_wrong("(x ? y : x)", "((x + y) ? y : x)", "(1 ? y : x)", "(not x)", "(not (neg x))", "(x and y)",
                         "((x < y) and y)", "(x or (x < y))", "((x < y) or (neg x))", "(and (x < y))", "(not not x)")

    def test_signs(self):
        self.check_wrong("(x & y)", "(x == y)", "(x > y)", "(x >= y)", "(x / y)", "(x % y)", "(- x)", "(not)", "(neg)",
                         "(x +)", "(+ y)", "(+)", "(x y)", "(x ? y)", "((x < y) : x ? y)", "((x < y) ? x y)",
                         "((x < y) ? x ? y)", "((x < y) : x : y)", "((x < y) ? x : y : x)", "(x != y)", "(x =< y)",
                         "(neg x y)", "(x neg y)", "((x < y) not (x < y))", "(add x y)", "('var', 'x')")

    def test_hundred_open_brackets(self):
        for opening, closing, deepest in (("(neg ", ")", "x"), ("(", " << 3)", "x"), ("(cast int ", ")", "5u"),
                                          ("(not ", ")", "(x < y)"), ("(1 + ", ")", "x"), ("(", " * 1)", "x")):
            times = 99 if deepest == "(x < y)" else 100
            text = opening * times + deepest + closing * times
            self.assertTrue(self.check(text))
            self.check_wrong(text + ")", "(" + text, text[:-1], text[1:], opening * 100, text.replace(deepest, "", 1))
        self.check_wrong("(" * 100, ")" * 100, "(" * 100 + ")" * 100, "(" * 100 + "x" + ")" * 100)

    def test_long_texts(self):
        for sign in SIGNS:
            self.check_wrong(sign * 2000, "(neg " + sign * 1990 + ")")
        wide = "x"
        while len(wide) < 1900:
            wide = "(" + wide + " + 1)" if wide.count("(") < 90 else "(" + wide + " * " + "9" * 50 + "ul)"
        self.assertTrue(self.check(wide))
        self.check_wrong(wide[:-1], wide + " ", wide.replace("1", "01", 1), wide.replace(" + ", " +  ", 1))
        many = "(x < y)"
        while len(many) < 900:
            many = "(" + many + " and " + many + ")"
        self.assertTrue(self.check(many))
        self.check_wrong(many[:-1], many.replace("and", "nand", 1), many + many)


class Variables(unittest.TestCase):
    def check_wrong(self, *texts):
        for text in texts:
            with self.subTest(text=text):
                self.assertEqual(raised(read_variables, text), (Unreadable, text))

    def test_written_out(self):
        for text, variables in (("none", []), ("x char -5 5", [("x", "char", -5, 5)]),
                                ("a uint 0 0", [("a", "uint", 0, 0)]),
                                ("y schar -9 -9, x ulong 3 60000", [("y", "schar", -9, -9), ("x", "ulong", 3, 60000)])):
            self.assertEqual(read_variables(text), variables)

    def test_drawn(self):
        rng = random.Random(203)
        for many in list(range(9)) * 20:
            variables = random_variables(rng, many, reach=10 ** rng.randrange(1, 41))
            self.assertEqual(read_variables(show_variables(variables)), variables)

    def test_results_are_new(self):
        for text in ("none", "x int 0 1"):
            first = read_variables(text)
            first.append(1)
            self.assertEqual(len(read_variables(text)) + 1, len(first))

    def test_limits(self):
        nines = "9" * 50
        self.assertEqual(read_variables("x int -" + nines + " " + nines), [("x", "int", 1 - 10 ** 50, 10 ** 50 - 1)])
        self.assertEqual(read_variables("x int 0 10"), [("x", "int", 0, 10)])
        self.check_wrong("x int -0 5", "x int 0 -0", "x int 00 5", "x int 0 05", "x int -05 5",
                         "x int -1" + nines + " 0", "x int 0 1" + nines, "x int 0 0" + nines, "x int +1 5",
                         "x int 1 5u", "x int a b", "x int - 5", "x int -- 5", "x int --1 5", "x int 1.0 5",
                         "x int 1- 5", "x int  5", "x int 0 \u0663")
        self.check_wrong("x int 5 4", "x int 0 -1", "x int 1 -1", "x int 0 1, y int -8 -9")

    def test_names_and_types(self):
        self.check_wrong(*[name + " int 0 1" for name in NO_NAMES + ["abcdefghi", "", "X", "x1", "x_", "(x)"]])
        self.check_wrong(*["x " + kind + " 0 1" for kind in ("byte", "", "INT", "not", "x", "none", "0")])
        self.check_wrong("x int 0 1, x int 0 1", "x int 0 1, y int 0 1, x long 0 1", "x int 0 1, y int 0 1, y int 0 1")
        self.assertEqual(read_variables("if int 0 1, nones int 0 1")[1][0], "nones")

    def test_separators(self):
        self.check_wrong("", " ", "x int 0 1,y int 0 1", "x int 0 1,  y int 0 1", "x int 0 1 , y int 0 1",
                         "x int 0 1,", "x int 0 1, ", ", x int 0 1", "x int 0 1; y int 0 1", "x int 0 1 y int 0 1",
                         "x int 0 1,, y int 0 1", "x int 0 1, , y int 0 1", " x int 0 1", "x int 0 1 ", "x  int 0 1",
                         "x int  0 1", "x int 0  1", "x int 0", "x int", "x", "x int 0 1 2", "none, x int 0 1",
                         "x int 0 1, none", " none", "none ", "None", "none, none", "no", "x int 0 1\n", "x\tint 0 1",
                         ",", ", ")

    def test_one_character_changed(self):
        for text in ("none", "x int -5 17", "a uchar 0 9, b long -10 -2"):
            readable = 0
            for changed in changed_texts(text):
                outcome = raised(read_variables, changed)
                if outcome is None:
                    readable += 1
                    self.assertEqual(show_variables(read_variables(changed)), changed)
                else:
                    self.assertEqual(outcome, (Unreadable, changed))
                    self.assertFalse(self.is_text(changed))
            self.assertGreater(readable, 0)

    def is_text(self, text):
        """Whether variables have a text, in another way."""
        limit = "(0|-?[1-9][0-9]{0,49})"
        rows = [re.fullmatch(rf"([a-z]{{1,8}}) {KIND} {limit} {limit}", part) for part in text.split(", ")]
        if None in rows:
            return text == "none"
        names = [row.group(1) for row in rows]
        return (len(set(names)) == len(names) and not set(names) & set(NO_NAMES)
                and all(int(row.group(3)) <= int(row.group(4)) for row in rows))

    def test_long_texts(self):
        for sign in SIGNS:
            self.check_wrong(sign * 2000, "x int 0 " + sign * 1990, "x" + sign * 1990)
        many = ", ".join("abcdefgh"[at % 8] + "abcdefgh"[at // 8] + " uwide -" + "9" * 40 + " 5" for at in range(30))
        self.assertEqual(len(read_variables(many)), 30)


class Models(unittest.TestCase):
    def check_wrong(self, *texts):
        for text in texts:
            with self.subTest(text=text):
                self.assertEqual(raised(read_model, text), (Unreadable, text))

    def test_models(self):
        for model in all_models((2,) * 5, 5) + all_models((126,) * 5, 128) + [((8, 16, 32, 64, 64), "s")]:
            found = read_model(show_model(model))
            self.assertEqual(found, model)
            self.assertIsInstance(found, tuple)
            self.assertIsInstance(found[0], tuple)

    def test_widths(self):
        self.check_wrong("8 16 15 32 64 s", "16 8 32 64 64 u", "8 16 32 64 63 s", "1 16 32 64 64 s", "0 16 32 64 64 s",
                         "8 16 32 64 129 s", "1 1 1 1 1 u", "129 129 129 129 129 s", "-8 16 32 64 64 s",
                         "8 16 32 64 s", "8 16 32 64 64 64 s", "s", "8 s", "8 16 32 64 64", "",
                         "8 16 32 64 1" + "0" * 50 + " s", "08 16 32 64 64 s", "8 16 32 64 064 s", "8 16 32 64 6u s",
                         "8 16 32 64 \u0668 s", "8.0 16 32 64 64 s", "+8 16 32 64 64 s")

    def test_signs(self):
        self.check_wrong(*["8 16 32 64 64 " + plain for plain in ("", "x", "S", "U", "su", "s s", "0", "8", "signed")])
        self.check_wrong("8 16 32 64 64s", "s 8 16 32 64 64", "8 16 s 32 64 64", "8 16 32 64 64  s")

    def test_spaces(self):
        self.check_wrong(" 8 16 32 64 64 s", "8 16 32 64 64 s ", "8  16 32 64 64 s", "8, 16, 32, 64, 64, s",
                         "8163264 64 s", "8 16 32 64 64 s\n", "8\t16 32 64 64 s", "none",
                         "((8, 16, 32, 64, 64), 's')", " ", "     s")

    def test_one_character_changed(self):
        shown = {show_model(model) for model in all_models((2, 2, 2, 2, 2), 9)}
        for text in ("2 3 4 5 6 s", "8 8 9 9 9 u"):
            for changed in changed_texts(text):
                outcome = raised(read_model, changed)
                if outcome is None:
                    self.assertEqual(show_model(read_model(changed)), changed)
                else:
                    self.assertEqual(outcome, (Unreadable, changed))
                    self.assertNotIn(changed, shown)

    def test_long_texts(self):
        for sign in SIGNS:
            self.check_wrong(sign * 2000, "8 16 32 64 64 " + sign * 1980, sign * 1980 + " 16 32 64 64 s")
        self.check_wrong("8 " * 900 + "s")


class Examples(unittest.TestCase):
    def test_example_of_the_document(self):
        with self.assertRaises(Unreadable) as caught:
            read_expression('x + 1')
        self.assertEqual(caught.exception.value, 'x + 1')


if __name__ == "__main__":
    unittest.main()
