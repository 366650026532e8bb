"""Comparisons of integers of two types that go wrong: how many there are, and the first one."""

import random
import unittest

from castforms.errors import InvalidModel, InvalidType
from castforms.mixed import count_wrong, first_wrong
from castforms.models import common, converted, limits, width
from support import KINDS, LP32, all_models, raised


def goes_wrong(model, first, second, a, b):
    """Whether a pair goes wrong, as the interface says it."""
    kind = common(model, first, second)
    return (converted(model, kind, a) < converted(model, kind, b)) != (a < b)


def wrong_pairs(model, first, second):
    low, high = limits(model, first)
    least, greatest = limits(model, second)
    return [(a, b) for a in range(low, high + 1) for b in range(least, greatest + 1)
            if goes_wrong(model, first, second, a, b)]


def count_by_stretches(model, first, second):
    """The number of wrong pairs in another way, by those that are converted to others."""
    kind = common(model, first, second)
    size = 2 ** width(model, kind)
    (low, high), (least, greatest) = limits(model, first), limits(model, second)
    if limits(model, kind)[0] < 0 or (low < 0) == (least < 0):
        return 0
    if low < 0:
        # (a, b) with a < 0 is wrong for all b from 0 to a + size that the second type holds.
        assert greatest == size - 1
        return sum_of_stretch(size + low + 1, size)
    # (a, b) with b < 0 is wrong for all a from 0 to b + size - 1.
    assert high == size - 1
    return sum_of_stretch(size + least, size - 1)


def sum_of_stretch(low, high):
    return (high * (high + 1) - low * (low - 1)) // 2


class SmallModels(unittest.TestCase):
    def check(self, model):
        """Against all pairs, for all pairs of types; returns how many of these have a wrong pair."""
        found = 0
        for first in KINDS:
            for second in KINDS:
                wrong = wrong_pairs(model, first, second)
                found += 1 if wrong else 0
                with self.subTest(model=model, first=first, second=second):
                    self.assertEqual(count_wrong(model, first, second), len(wrong))
                    self.assertEqual(first_wrong(model, first, second), min(wrong) if wrong else None)
        return found

    def test_all_types(self):
        found = set()
        for widths in ((2, 2, 2, 2, 2), (2, 2, 2, 3, 3), (2, 3, 4, 5, 6), (3, 3, 4, 4, 5), (2, 2, 3, 3, 3),
                       (4, 4, 4, 4, 6), (2, 4, 4, 5, 5), (2, 2, 5, 5, 5), (5, 5, 5, 5, 5)):
            for plain in "su":
                found.add(self.check((widths, plain)))
        self.assertGreater(len(found), 5)

    def test_drawn_models(self):
        for model in random.Random(171).sample(all_models((2,) * 5, 5), 15):
            self.check(model)

    def test_written_out(self):
        model = ((2, 2, 2, 3, 3), "s")
        # -2 becomes 2, and -1 becomes 3: neither is less than what is not greater.
        self.assertEqual(wrong_pairs(model, "int", "uint"),
                         [(-2, 0), (-2, 1), (-2, 2), (-1, 0), (-1, 1), (-1, 2), (-1, 3)])
        self.assertEqual(wrong_pairs(model, "uint", "int"), [(0, -2), (0, -1), (1, -2), (1, -1), (2, -1)])
        self.assertEqual((count_wrong(model, "int", "uint"), first_wrong(model, "int", "uint")), (7, (-2, 0)))
        self.assertEqual((count_wrong(model, "uint", "int"), first_wrong(model, "uint", "int")), (5, (0, -2)))

    def test_none_goes_wrong(self):
        for first, second in (("int", "int"), ("int", "wide"), ("uint", "ulong"), ("uint", "long"), ("long", "uint"),
                              ("uchar", "int"), ("short", "uchar"), ("char", "schar"), ("uwide", "uchar")):
            with self.subTest(first=first, second=second):
                self.assertEqual(count_wrong(LP32, first, second), 0)
                self.assertIsNone(first_wrong(LP32, first, second))

    def test_both_signs_of_char(self):
        for widths in ((8, 16, 16, 32, 64), (8, 8, 8, 8, 8)):
            self.assertEqual(count_wrong((widths, "s"), "char", "char"), 0)
            self.assertEqual(count_wrong((widths, "u"), "uint", "char"), 0)
            self.assertEqual(first_wrong((widths, "s"), "uint", "char"), (0, -128))
            self.assertEqual(first_wrong((widths, "s"), "char", "ulong"), (-128, 0))
        self.assertEqual(first_wrong(((8, 8, 8, 8, 8), "u"), "char", "int"), (0, -128))
        self.assertEqual(first_wrong(((8, 8, 8, 8, 8), "u"), "schar", "char"), (-128, 0))
        self.assertIsNone(first_wrong(((8, 8, 9, 9, 9), "u"), "schar", "char"))


class GreatModels(unittest.TestCase):
    def test_counting_agrees_with_all_pairs(self):
        for model in random.Random(172).sample(all_models((2,) * 5, 4), 20):
            for first in KINDS:
                for second in KINDS:
                    self.assertEqual(count_by_stretches(model, first, second), len(wrong_pairs(model, first, second)))

    def test_all_types(self):
        rng = random.Random(173)
        drawn = [tuple(sorted(rng.choice([8, 16, 32, 64, 127, 128, 128]) for _ in range(5))) for _ in range(20)]
        for widths in drawn + [(128,) * 5, (2, 2, 2, 2, 128), (8, 16, 32, 64, 128), (2, 128, 128, 128, 128)]:
            for plain in "su":
                self.check((widths, plain))

    def check(self, model):
        for first in KINDS:
            for second in KINDS:
                with self.subTest(model=model, first=first, second=second):
                    wanted = count_by_stretches(model, first, second)
                    self.assertEqual(count_wrong(model, first, second), wanted)
                    pair = first_wrong(model, first, second)
                    self.assertIs(pair is None, wanted == 0)
                    if pair is not None:
                        self.check_first(model, first, second, pair)

    def check_first(self, model, first, second, pair):
        """Checks that a pair goes wrong, and that none does that has a lesser integer in either place."""
        self.assertTrue(goes_wrong(model, first, second, *pair))
        low, least = limits(model, first)[0], limits(model, second)[0]
        self.assertEqual(pair[0], low)
        # Those that are least may be far below: the ones next below, and the least ones, are tried.
        for lesser in range(max(least, pair[1] - 5), pair[1]):
            self.assertFalse(goes_wrong(model, first, second, low, lesser))
        if least < pair[1]:
            self.assertFalse(goes_wrong(model, first, second, low, least))

    def test_written_out(self):
        model = ((8, 16, 32, 64, 128), "s")
        half = 2 ** 127
        # Each negative `wide`, as an `uwide`, is not less than itself and all below.
        self.assertEqual(count_wrong(model, "wide", "uwide"), sum_of_stretch(half + 1, 2 * half))
        self.assertEqual(first_wrong(model, "wide", "uwide"), (-half, 0))
        self.assertEqual(first_wrong(model, "uwide", "schar"), (0, -128))
        self.assertEqual(count_wrong(model, "uwide", "schar"), sum(2 ** 128 - number for number in range(1, 129)))


class Errors(unittest.TestCase):
    def check(self, wanted, *arguments):
        for function in (count_wrong, first_wrong):
            self.assertEqual(raised(function, *arguments), wanted)

    def test_model(self):
        for model, index in ((((8, 16, 16, 32), "s"), None), (((8, 16, 15, 32, 64), "s"), 2),
                             (((1, 16, 16, 32, 64), "s"), 0), (((8, 16, 16, 32, 129), "u"), 4),
                             (((8, 16, 16, 32, 64), "S"), None), (((8, 16, 16, 1, 64), ""), 3)):
            self.check((InvalidModel, index), model, "int", "uint")
            self.check((InvalidModel, index), model, "byte", "word")

    def test_types(self):
        self.check((InvalidType, "byte"), LP32, "byte", "int")
        self.check((InvalidType, "byte"), LP32, "int", "byte")
        self.check((InvalidType, "byte"), LP32, "byte", "word")
        self.check((InvalidType, "word"), LP32, "word", "byte")
        self.check((InvalidType, ""), LP32, "", "none")
        self.check((InvalidType, "Int"), LP32, "int", "Int")


class Examples(unittest.TestCase):
    def test_example_of_the_document(self):
        model = ((2, 2, 2, 3, 3), 's')
        self.assertEqual(
            [count_wrong(model, 'int', 'uint'), first_wrong(model, 'int', 'uint'), count_wrong(model, 'uint', 'int'),
             count_wrong(model, 'uint', 'long')],
            [7, (-2, 0), 5, 0])


if __name__ == "__main__":
    unittest.main()
