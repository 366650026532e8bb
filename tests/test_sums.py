"""The ways to choose integers from ranges whose sum a type does not hold."""

import itertools
import random
import unittest

from castforms.errors import InvalidModel, InvalidNumber, InvalidType
from castforms.models import limits
from castforms.sums import count_beyond
from support import KINDS, LP32, all_models, raised

SMALL = ((2, 3, 4, 5, 6), "s")
HUGE = 10 ** 40


def all_ways(ranges):
    return itertools.product(*[range(low, high + 1) for low, high in ranges])


def ways_by_sum(ranges):
    """A dict from the sums to the number of ways, one range behind the other."""
    found = {0: 1}
    for low, high in ranges:
        sums = {}
        for total, ways in found.items():
            for number in range(low, high + 1):
                sums[total + number] = sums.get(total + number, 0) + ways
        found = sums
    return found


def stretches_beyond(low, high, ends):
    """How many integers from low to high lie beyond the ends."""
    return max(0, min(high, ends[0] - 1) - low + 1) + max(0, high - max(low, ends[1] + 1) + 1)


def two_ranges_beyond(first, second, ends):
    """For a short first range: for each integer of it, those of the second one with which the sum is beyond."""
    return sum(stretches_beyond(number + second[0], number + second[1], ends)
               for number in range(first[0], first[1] + 1))


class SmallRanges(unittest.TestCase):
    def check(self, model, kind, ranges):
        least, greatest = limits(model, kind)
        wanted = sum(not least <= sum(chosen) <= greatest for chosen in all_ways(ranges))
        with self.subTest(model=model, kind=kind, ranges=ranges):
            self.assertEqual(count_beyond(model, kind, ranges), wanted)
        return wanted

    def test_no_range(self):
        for kind in KINDS:
            for model in (SMALL, LP32, ((2,) * 5, "u")):
                self.assertEqual(self.check(model, kind, []), 0)

    def test_one_range(self):
        for kind in KINDS:
            for plain in "su":
                least, greatest = limits((SMALL[0], plain), kind)
                for low in range(least - 3, greatest + 3):
                    for high in (low, low + 1, low + 3, greatest, greatest + 1, greatest + 9):
                        if low <= high:
                            self.check((SMALL[0], plain), kind, [(low, high)])

    def test_ranges_of_one_integer(self):
        self.assertEqual(self.check(SMALL, "short", [(1, 1)] * 3), 0)
        self.assertEqual(self.check(SMALL, "short", [(1, 1)] * 4), 1)
        self.assertEqual(self.check(SMALL, "short", [(-1, -1)] * 4), 0)
        self.assertEqual(self.check(SMALL, "short", [(-1, -1)] * 5), 1)
        self.assertEqual(self.check(SMALL, "uint", [(-5, -5), (20, 20)]), 0)
        self.assertEqual(self.check(SMALL, "uint", [(-5, -5), (21, 21)]), 1)
        self.assertEqual(self.check(SMALL, "uint", [(-5, -5), (4, 4), (0, 0)]), 1)

    def test_within_beyond_and_across(self):
        for ranges, wanted in (([(-2, 1), (-1, 2)], 0), ([(4, 6), (0, 2)], 9), ([(-9, -6), (-1, 1)], 12),
                               ([(-6, 6)], 5), ([(-6, 6), (-1, 1)], 15), ([(0, 3), (0, 3)], 6), ([(4, 4)], 1),
                               ([(-4, 3)], 0), ([(-5, 3)], 1), ([(-4, 4)], 1), ([(9, 9), (-9, -6)], 0)):
            self.assertEqual(self.check(SMALL, "short", ranges), wanted)
        for ranges, wanted in (([(-1, 1)], 1), ([(0, 3)], 0), ([(-9, -1)], 9), ([(-2, 2), (0, 3)], 6)):
            self.assertEqual(self.check(SMALL, "uchar", ranges), wanted)

    def test_all_types_and_ranges_drawn(self):
        rng = random.Random(181)
        models = all_models((2,) * 5, 6)
        for number in range(1500):
            ranges = []
            for _ in range(rng.randrange(5)):
                low = rng.randrange(-12, 12)
                ranges.append((low, low + rng.choice([0, 0, 1, 2, 5])))
            self.check(rng.choice(models), KINDS[number % 11], ranges)

    def test_eight_ranges(self):
        rng = random.Random(182)
        for number in range(60):
            ranges = []
            for _ in range(8):
                low = rng.randrange(-30, 25)
                ranges.append((low, low + rng.randrange(20)))
            for model in (SMALL, LP32, ((6, 7, 7, 8, 9), "u")):
                least, greatest = limits(model, KINDS[number % 11])
                wanted = sum(ways for total, ways in ways_by_sum(ranges).items() if not least <= total <= greatest)
                self.assertEqual(count_beyond(model, KINDS[number % 11], ranges), wanted)

    def test_equal_ranges(self):
        # Of eight bits all sums are held but 0 and the greatest ones.
        self.assertEqual(self.check(((2, 2, 2, 2, 2), "s"), "int", [(0, 1)] * 8), 256 - 1 - 8)
        self.assertEqual(self.check(((2, 2, 2, 2, 2), "s"), "uint", [(0, 1)] * 8), 256 - 1 - 8 - 28 - 56)


class LongRanges(unittest.TestCase):
    ENDS = [limits(((8, 16, 32, 64, 128), "s"), kind) for kind in KINDS]
    MODEL = ((8, 16, 32, 64, 128), "s")

    def test_one_range(self):
        for kind, ends in zip(KINDS, self.ENDS):
            for low, high in ((-HUGE, HUGE), (0, HUGE), (-HUGE, 0), (-HUGE, -HUGE), (5, 10 ** 30), (ends[0], ends[1]),
                              (ends[0] - 1, ends[1] + 1), (ends[1], HUGE), (-HUGE, ends[0])):
                with self.subTest(kind=kind, low=low, high=high):
                    self.assertEqual(count_beyond(self.MODEL, kind, [(low, high)]),
                                     stretches_beyond(low, high, ends))

    def test_a_short_range_and_a_long_one(self):
        rng = random.Random(183)
        for _ in range(300):
            at = rng.randrange(11)
            first = rng.randrange(-HUGE, HUGE) // 2 ** rng.randrange(140)
            short = (first, first + rng.randrange(30))
            long = tuple(sorted(rng.randrange(-HUGE, HUGE) // 2 ** rng.randrange(140) for _ in "lh"))
            wanted = two_ranges_beyond(short, long, self.ENDS[at])
            self.assertEqual(count_beyond(self.MODEL, KINDS[at], [short, long]), wanted)
            self.assertEqual(count_beyond(self.MODEL, KINDS[at], [long, short]), wanted)

    def test_two_long_ranges(self):
        # The pairs with a sum of at most t, from -h on, are a triangle without what is cut off.
        def triangle(side):
            return side * (side + 1) // 2 if side > 0 else 0

        for kind, (least, greatest) in zip(KINDS, self.ENDS):
            size = 2 * HUGE + 1

            def up_to(most):
                side = most + size
                return triangle(side) - 2 * triangle(side - size)

            wanted = size * size - up_to(greatest) + up_to(least - 1)
            self.assertEqual(count_beyond(self.MODEL, kind, [(-HUGE, HUGE)] * 2), wanted)

    def test_eight_long_ranges(self):
        """The ways that are held, and those below and above, are all of them; both sides are alike."""
        ranges = [(-HUGE, HUGE)] * 8
        every = (2 * HUGE + 1) ** 8
        for kind, (least, greatest) in zip(KINDS, self.ENDS):
            beyond = count_beyond(self.MODEL, kind, ranges)
            self.assertTrue(0 < beyond < every)
            mirrored = [(-HUGE - 1, HUGE - 1)] + ranges[1:]
            if least < 0:
                # From s to -1 - s, a signed type becomes itself, and the ranges become these.
                self.assertEqual(count_beyond(self.MODEL, kind, mirrored), beyond)

    def test_one_more_integer(self):
        """A range with one integer more has the ways of the shorter one, and those with this integer."""
        rng = random.Random(184)
        for _ in range(100):
            kind = rng.choice(KINDS)
            ranges = []
            for _ in range(rng.randrange(1, 9)):
                ranges.append(tuple(sorted(rng.randrange(-HUGE, HUGE) // 2 ** rng.randrange(60) for _ in "lh")))
            (low, high), others = ranges[0], ranges[1:]
            longer, alone = [(low, high + 1)] + others, [(high + 1, high + 1)] + others
            self.assertEqual(count_beyond(self.MODEL, kind, longer) - count_beyond(self.MODEL, kind, ranges),
                             count_beyond(self.MODEL, kind, alone))

    def test_all_sums_are_held_or_none(self):
        ends = limits(self.MODEL, "wide")
        self.assertEqual(count_beyond(self.MODEL, "wide", [(0, 2 ** 124 - 1)] * 8), 0)
        self.assertEqual(count_beyond(self.MODEL, "wide", [(0, 2 ** 124)] * 8), 1)
        self.assertEqual(count_beyond(self.MODEL, "wide", [(-2 ** 124, 0)] * 8), 0)
        self.assertEqual(count_beyond(self.MODEL, "wide", [(-2 ** 124 - 1, 0)] * 8), 1 + 8 + 36 + 120 + 330 + 792
                         + 1716 + 3432)
        far = [(ends[1] // 8 + 1, HUGE)] * 8
        self.assertEqual(count_beyond(self.MODEL, "wide", far), (HUGE - ends[1] // 8) ** 8)


class Errors(unittest.TestCase):
    GOOD = [(0, 1), (3, 3)]

    def test_model(self):
        for model, index in ((((8, 16, 16, 32), "s"), None), (((8, 16, 15, 32, 64), "s"), 2),
                             (((8, 16, 16, 32, 64), "x"), None), (((8, 16, 16, 32, 129), "x"), 4)):
            self.assertEqual(raised(count_beyond, model, "int", self.GOOD), (InvalidModel, index))
            self.assertEqual(raised(count_beyond, model, "byte", [(1, 0)]), (InvalidModel, index))

    def test_type(self):
        for kind in ("byte", "", "INT", "none"):
            self.assertEqual(raised(count_beyond, LP32, kind, self.GOOD), (InvalidType, kind))
            self.assertEqual(raised(count_beyond, LP32, kind, self.GOOD + [(1, 0)]), (InvalidType, kind))

    def test_ranges(self):
        for at in range(8):
            ranges = [(0, 1)] * 8
            ranges[at] = (HUGE, -HUGE)
            self.assertEqual(raised(count_beyond, LP32, "int", ranges), (InvalidNumber, at))
            ranges[7] = (1, 0)
            self.assertEqual(raised(count_beyond, LP32, "int", ranges), (InvalidNumber, at))
        self.assertIsNone(raised(count_beyond, LP32, "int", [(5, 5)]))


class Examples(unittest.TestCase):
    def test_example_of_the_document(self):
        self.assertEqual(
            [count_beyond(((2, 3, 4, 5, 6), 's'), 'short', [(0, 3), (0, 3)]),
             count_beyond(((2, 3, 4, 5, 6), 's'), 'uchar', [(-1, 1)]),
             count_beyond(((2, 3, 4, 5, 6), 's'), 'int', [])],
            [6, 1, 0])


if __name__ == "__main__":
    unittest.main()
