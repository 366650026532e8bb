"""Promises 4 and 5: models and types, promotion, common types, conversion."""

import unittest

from castforms.errors import InvalidModel, InvalidType
from castforms.models import common, converted, holds, limits, promoted, width
from support import KINDS, LP32, raised, untouched

# Written out, so that no table of the program stands behind the tests.
PLACES = {
    "char": 0, "schar": 0, "uchar": 0, "short": 1, "ushort": 1, "int": 2, "uint": 2,
    "long": 3, "ulong": 3, "wide": 4, "uwide": 4,
}
ALWAYS_UNSIGNED = ["uchar", "ushort", "uint", "ulong", "uwide"]
SOME_WIDTHS = [
    (2, 2, 2, 2, 2), (2, 3, 4, 5, 6), (2, 2, 3, 3, 4), (8, 16, 16, 32, 64), (8, 16, 32, 32, 64),
    (8, 16, 32, 64, 64), (9, 9, 18, 36, 72), (16, 16, 16, 16, 16), (2, 2, 2, 2, 128),
    (2, 128, 128, 128, 128), (127, 127, 128, 128, 128), (128, 128, 128, 128, 128),
]
WRONG_WIDTHS = [
    ((), None), ((8, 16, 16, 32), None), ((8, 16, 16, 32, 64, 64), None), ((1,), None), ((0, 0, 0, 0, 0, 0), None),
    ((1, 16, 16, 32, 64), 0), ((0, 16, 16, 32, 64), 0), ((-8, 16, 16, 32, 64), 0), ((129, 129, 129, 129, 129), 0),
    ((10 ** 40, 16, 16, 32, 64), 0), ((-10 ** 40, 16, 16, 32, 64), 0),
    ((8, 7, 16, 32, 64), 1), ((8, 1, 16, 32, 64), 1), ((8, 129, 129, 129, 129), 1),
    ((8, 16, 15, 32, 64), 2), ((8, 16, 129, 32, 64), 2), ((8, 16, 16, 15, 64), 3), ((8, 16, 16, 129, 130), 3),
    ((8, 16, 16, 32, 31), 4), ((8, 16, 16, 32, 129), 4), ((128, 128, 128, 128, 127), 4), ((3, 2, 1, 0, -1), 1),
    ((8, 16, 15, 14, 129), 2),
]
CALLS = [
    (width, ("int",)), (limits, ("int",)), (holds, ("int", 5)), (promoted, ("int",)),
    (converted, ("int", 5)), (common, ("int", "long")),
]


def some_models():
    return [(widths, plain) for widths in SOME_WIDTHS for plain in "su"]


def is_unsigned(model, kind):
    return kind in ALWAYS_UNSIGNED or kind == "char" and model[1] == "u"


def expected_limits(model, kind):
    bits = model[0][PLACES[kind]]
    if is_unsigned(model, kind):
        return 0, 2 ** bits - 1
    return -2 ** (bits - 1), 2 ** (bits - 1) - 1


class WidthsAndLimits(unittest.TestCase):
    def test_width_limits_holds_of_all_types(self):
        for model in some_models():
            for kind in KINDS:
                with self.subTest(model=model, kind=kind):
                    low, high = expected_limits(model, kind)
                    self.assertEqual(width(model, kind), model[0][PLACES[kind]])
                    self.assertEqual(limits(model, kind), (low, high))
                    held = [holds(model, kind, n) for n in (low - 1, low, low + 1, 0, high - 1, high, high + 1)]
                    self.assertEqual(held, [False, True, True, True, True, True, False])
                    self.assertIs(held[0], False)
                    self.assertIs(held[1], True)

    def test_every_width(self):
        for bits in range(2, 129):
            model = ((bits,) * 5, "s")
            for kind in KINDS:
                self.assertEqual(width(model, kind), bits)
                self.assertEqual(limits(model, kind), expected_limits(model, kind))

    def test_literal_numbers(self):
        self.assertEqual(limits(((8, 16, 16, 32, 64), "s"), "char"), (-128, 127))
        self.assertEqual(limits(((8, 16, 16, 32, 64), "u"), "char"), (0, 255))
        self.assertEqual(limits(((8, 16, 16, 32, 64), "u"), "schar"), (-128, 127))
        self.assertEqual(limits(((2, 2, 2, 2, 2), "s"), "int"), (-2, 1))
        self.assertEqual(limits(LP32, "uwide"), (0, 18446744073709551615))

    def test_limits_is_a_tuple(self):
        self.assertIs(type(limits(LP32, "int")), tuple)

    def test_large_numbers(self):
        for kind in KINDS:
            self.assertFalse(holds(((128,) * 5, "s"), kind, 10 ** 40))
            self.assertFalse(holds(((128,) * 5, "s"), kind, -10 ** 40))


class Checks(unittest.TestCase):
    def test_wrong_widths(self):
        for function, rest in CALLS:
            for widths, index in WRONG_WIDTHS:
                with self.subTest(function=function.__name__, widths=widths):
                    self.assertEqual(raised(function, (widths, "s"), *rest), (InvalidModel, index))

    def test_wrong_plain(self):
        for function, rest in CALLS:
            for plain in ("", "S", "us", "su", "x", "s ", "signed"):
                with self.subTest(function=function.__name__, plain=plain):
                    self.assertEqual(raised(function, (LP32[0], plain), *rest), (InvalidModel, None))

    def test_widths_ahead_of_plain(self):
        for function, rest in CALLS:
            self.assertEqual(raised(function, ((8, 7, 16, 32, 64), "x"), *rest), (InvalidModel, 1))

    def test_wrong_type(self):
        for function, rest in CALLS:
            for kind in ("", "Int", "INT", "int ", " int", "integer", "in", "unsigned", "ucharx", "uwide,", "none"):
                with self.subTest(function=function.__name__, kind=kind):
                    self.assertEqual(raised(function, LP32, kind, *rest[1:]), (InvalidType, kind))

    def test_model_ahead_of_type(self):
        for function, rest in CALLS:
            with self.subTest(function=function.__name__):
                self.assertEqual(raised(function, ((8,), "s"), "none", *rest[1:]), (InvalidModel, None))
                self.assertEqual(raised(function, (LP32[0], "x"), "none", *rest[1:]), (InvalidModel, None))
                self.assertEqual(raised(function, ((8, 16, 16, 32, 8), "s"), "none", *rest[1:]), (InvalidModel, 4))

    def test_common_checks_the_first_type_first(self):
        self.assertEqual(raised(common, LP32, "one", "two"), (InvalidType, "one"))
        self.assertEqual(raised(common, LP32, "int", "two"), (InvalidType, "two"))
        self.assertEqual(raised(common, LP32, "one", "int"), (InvalidType, "one"))
        self.assertEqual(raised(common, (LP32[0], "t"), "int", "two"), (InvalidModel, None))

    def test_right_models_raise_nothing(self):
        for function, rest in CALLS:
            for model in some_models():
                self.assertIsNone(raised(function, model, *rest))


class Promotion(unittest.TestCase):
    def test_int_has_more_bits(self):
        for plain in "su":
            model = ((8, 16, 32, 32, 64), plain)
            self.assertEqual([promoted(model, kind) for kind in KINDS],
                             ["int"] * 6 + ["uint", "long", "ulong", "wide", "uwide"])

    def test_int_has_as_many_as_short(self):
        for plain in "su":
            model = ((8, 16, 16, 32, 64), plain)
            self.assertEqual([promoted(model, kind) for kind in KINDS],
                             ["int"] * 4 + ["uint", "int", "uint", "long", "ulong", "wide", "uwide"])

    def test_int_has_as_many_as_char(self):
        model = ((16, 16, 16, 16, 16), "s")
        self.assertEqual([promoted(model, kind) for kind in KINDS[:5]], ["int", "int", "uint", "int", "uint"])
        model = ((16, 16, 16, 16, 16), "u")
        self.assertEqual([promoted(model, kind) for kind in KINDS[:5]], ["uint", "int", "uint", "int", "uint"])

    def test_one_bit_more(self):
        model = ((16, 16, 17, 17, 17), "u")
        self.assertEqual([promoted(model, kind) for kind in KINDS[:5]], ["int"] * 5)


class CommonType(unittest.TestCase):
    def check(self, model, first, second, expected):
        with self.subTest(model=model, first=first, second=second):
            self.assertEqual(common(model, first, second), expected)
            self.assertEqual(common(model, second, first), expected)

    def test_same_sign(self):
        self.check(LP32, "int", "int", "int")
        self.check(LP32, "uint", "uint", "uint")
        self.check(LP32, "int", "long", "long")
        self.check(LP32, "long", "wide", "wide")
        self.check(LP32, "uint", "uwide", "uwide")
        self.check(LP32, "ulong", "uint", "ulong")
        self.check(LP32, "char", "schar", "int")
        self.check(LP32, "ushort", "ulong", "ulong")

    def test_unsigned_of_no_lesser_rank(self):
        self.check(LP32, "uint", "int", "uint")
        self.check(LP32, "ulong", "int", "ulong")
        self.check(LP32, "ulong", "long", "ulong")
        self.check(LP32, "uwide", "short", "uwide")
        self.check(((2, 2, 2, 2, 2), "s"), "ulong", "int", "ulong")

    def test_unsigned_of_lesser_rank_with_fewer_bits(self):
        self.check(LP32, "uint", "long", "long")
        self.check(LP32, "uint", "wide", "wide")
        self.check(LP32, "ulong", "wide", "wide")
        self.check(((2, 2, 2, 3, 3), "s"), "uint", "long", "long")

    def test_unsigned_of_lesser_rank_with_as_many_bits(self):
        self.check(((8, 16, 32, 32, 64), "s"), "uint", "long", "ulong")
        self.check(((8, 16, 32, 64, 64), "s"), "ulong", "wide", "uwide")
        self.check(((8, 16, 64, 64, 64), "s"), "uint", "wide", "uwide")

    def test_promotion_comes_first(self):
        self.check(LP32, "ushort", "short", "uint")
        self.check(LP32, "ushort", "int", "uint")
        self.check(((8, 16, 32, 32, 64), "s"), "ushort", "short", "int")
        self.check(((16, 16, 16, 16, 16), "u"), "char", "short", "uint")
        self.check(((16, 16, 16, 16, 16), "s"), "char", "short", "int")
        self.check(((16, 16, 16, 16, 16), "u"), "char", "long", "ulong")
        self.check(((16, 16, 16, 17, 17), "u"), "char", "long", "long")

    def test_all_pairs(self):
        for model in some_models():
            for first in KINDS:
                for second in KINDS:
                    self.check(model, first, second, self.expected(model, first, second))

    def expected(self, model, first, second):
        one, other = promoted(model, first), promoted(model, second)
        if (one[0] == "u") == (other[0] == "u"):
            return max(one, other, key=PLACES.get)
        unsigned, signed = (one, other) if one[0] == "u" else (other, one)
        if PLACES[unsigned] >= PLACES[signed]:
            return unsigned
        return signed if width(model, unsigned) < width(model, signed) else "u" + signed


class Conversion(unittest.TestCase):
    def test_ends_of_the_ranges(self):
        for model in some_models():
            for kind in KINDS:
                with self.subTest(model=model, kind=kind):
                    low, high = expected_limits(model, kind)
                    numbers = (low - 1, low, low + 1, -1, 0, 1, high - 1, high, high + 1, 2 * high + 2, 2 * low - 1)
                    for number in numbers:
                        self.assertEqual(converted(model, kind, number), self.expected(low, high, number))

    def expected(self, low, high, number):
        while number < low:
            number += high - low + 1
        while number > high:
            number -= high - low + 1
        return number

    def test_just_beyond(self):
        self.assertEqual(converted(LP32, "schar", 128), -128)
        self.assertEqual(converted(LP32, "schar", -129), 127)
        self.assertEqual(converted(LP32, "uchar", 256), 0)
        self.assertEqual(converted(LP32, "uchar", -1), 255)
        self.assertEqual(converted(LP32, "ushort", 60000), 60000)
        self.assertEqual(converted(LP32, "short", 60000), -5536)
        self.assertEqual(converted((LP32[0], "u"), "char", -1), 255)
        self.assertEqual(converted((LP32[0], "s"), "char", 255), -1)

    def test_large_numbers(self):
        for model in some_models():
            for kind in KINDS:
                for number in (10 ** 40, -10 ** 40, 10 ** 40 - 1, 1 - 10 ** 40, 3 ** 80, -3 ** 80):
                    with self.subTest(model=model, kind=kind, number=number):
                        result = converted(model, kind, number)
                        self.assertTrue(holds(model, kind, result))
                        self.assertEqual((result - number) % 2 ** width(model, kind), 0)

    def test_written_out_large_numbers(self):
        self.assertEqual(converted(LP32, "uchar", 10 ** 40 + 7), 7)
        self.assertEqual(converted(LP32, "schar", -10 ** 40 - 7), -7)
        self.assertEqual(converted(((128,) * 5, "s"), "uint", -10 ** 40), (-10 ** 40) % 2 ** 128)


class Calls(unittest.TestCase):
    def test_by_name(self):
        self.assertEqual(width(model=LP32, kind="long"), 32)
        self.assertEqual(limits(kind="uchar", model=LP32), (0, 255))
        self.assertEqual(holds(number=256, kind="uchar", model=LP32), False)
        self.assertEqual(promoted(model=LP32, kind="ushort"), "uint")
        self.assertEqual(converted(model=LP32, kind="uchar", number=-1), 255)
        self.assertEqual(common(model=LP32, first="int", second="ulong"), "ulong")
        self.assertEqual(raised(common, second="one", first="two", model=LP32), (InvalidType, "two"))

    def test_arguments_stay(self):
        for function, rest in CALLS:
            for model in (LP32, ((8, 7, 16, 32, 64), "s"), (LP32[0], "x")):
                self.assertTrue(untouched(function, model, *rest))

    def test_example_of_the_document(self):
        model = ((8, 16, 32, 32, 64), 's')
        self.assertEqual(
            [promoted(model, 'ushort'), common(model, 'uint', 'long'), common(model, 'uint', 'wide'),
             converted(model, 'uchar', -1), limits(model, 'char')],
            ['int', 'ulong', 'wide', 255, (-128, 127)])


if __name__ == "__main__":
    unittest.main()
