"""Promise 3: the error classes."""

import unittest

from castforms import errors

NAMES = [
    "InvalidModel", "InvalidType", "InvalidVariables", "InvalidExpression", "InvalidValues",
    "InvalidNumber", "NotAdmitted", "NothingToUndo", "Unreadable",
]
CLASSES = [getattr(errors, name) for name in NAMES]


class ErrorClasses(unittest.TestCase):
    def test_value_by_position_and_by_name(self):
        for made in CLASSES:
            for value in (None, 0, 3, -1, 10 ** 40, "x", "", (), (0, 1, 2), ("literal", (1, 0))):
                with self.subTest(made=made.__name__, value=value):
                    self.assertEqual(made(value).value, value)
                    self.assertEqual(made(value=value).value, value)

    def test_exactly_one_argument(self):
        for made in CLASSES:
            with self.subTest(made=made.__name__):
                with self.assertRaises(TypeError):
                    made()
                with self.assertRaises(TypeError):
                    made(1, 2)
                with self.assertRaises(TypeError):
                    made(number=1)

    def test_direct_bases(self):
        self.assertEqual(errors.CastError.__bases__, (ValueError,))
        for made in CLASSES:
            with self.subTest(made=made.__name__):
                self.assertEqual(made.__bases__, (errors.CastError,))

    def test_no_subclass_of_another_one(self):
        for one in CLASSES:
            for other in CLASSES:
                with self.subTest(one=one.__name__, other=other.__name__):
                    self.assertEqual(issubclass(one, other), one is other)

    def test_nothing_else_is_a_subclass(self):
        self.assertEqual(sorted(made.__name__ for made in errors.CastError.__subclasses__()), sorted(NAMES))

    def test_values_are_kept_apart(self):
        one, other = errors.InvalidModel(1), errors.InvalidModel(2)
        self.assertEqual([one.value, other.value], [1, 2])

    def test_caught_by_its_bases(self):
        for made in CLASSES:
            for base in (made, errors.CastError, ValueError):
                with self.subTest(made=made.__name__, base=base.__name__):
                    with self.assertRaises(base) as caught:
                        raise made(7)
                    self.assertEqual(caught.exception.value, 7)


if __name__ == "__main__":
    unittest.main()
