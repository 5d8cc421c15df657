"""[5]: the classes of the errors and their fields."""

import unittest

from frameseams import errors

WITH_A_STRING = [
    "InvalidWindow", "InvalidHop", "InvalidHops", "InvalidNumber", "InvalidList",
    "InvalidDeck", "InvalidStream", "InvalidIndex", "NothingToUndo",
]
WITH_FIELDS = {"NotEven": ["rest", "other"], "NoPartner": ["rest"], "NoList": ["point"], "InvalidText": ["place"]}
ALL = WITH_A_STRING + list(WITH_FIELDS)


def class_of(name):
    return getattr(errors, name)


class Family(unittest.TestCase):
    def test_base(self):
        self.assertEqual(errors.SeamError.__bases__, (ValueError,))
        self.assertEqual(errors.SeamError.__name__, "SeamError")

    def test_each_one_is_a_direct_subclass(self):
        for name in ALL:
            with self.subTest(name):
                self.assertEqual(class_of(name).__bases__, (errors.SeamError,))
                self.assertEqual(class_of(name).__name__, name)
                self.assertEqual(class_of(name).__module__, "frameseams.errors")
                self.assertTrue(issubclass(class_of(name), ValueError))

    def test_none_is_a_subclass_of_another_one(self):
        for name in ALL:
            for other in ALL:
                with self.subTest(name=name, other=other):
                    self.assertEqual(issubclass(class_of(name), class_of(other)), name == other)

    def test_there_are_no_other_ones(self):
        names = {one.__name__ for one in errors.SeamError.__subclasses__()}
        self.assertEqual(names, set(ALL))


class Making(unittest.TestCase):
    def test_made_with_one_string(self):
        for name in ["SeamError"] + WITH_A_STRING:
            with self.subTest(name):
                made = class_of(name)("some words")
                self.assertIs(type(made), class_of(name))
                self.assertIn("some words", str(made))

    def test_fields_by_position(self):
        for name, fields in WITH_FIELDS.items():
            for first in (0, 1, 399, 10 ** 30 - 1):
                numbers = [first, first + 5][:len(fields)]
                with self.subTest(name=name, numbers=numbers):
                    made = class_of(name)(*numbers)
                    self.assertIs(type(made), class_of(name))
                    self.assertEqual([getattr(made, field) for field in fields], numbers)
                    self.assertTrue(str(made))

    def test_fields_by_name(self):
        for name, fields in WITH_FIELDS.items():
            named = {field: 11 + 3 * at for at, field in enumerate(fields)}
            with self.subTest(name):
                made = class_of(name)(**named)
                self.assertEqual({field: getattr(made, field) for field in fields}, named)
                self.assertTrue(str(made))

    def test_not_even_by_name_in_the_other_order(self):
        made = errors.NotEven(other=9, rest=2)
        self.assertEqual((made.rest, made.other), (2, 9))
        made = errors.NotEven(2, other=9)
        self.assertEqual((made.rest, made.other), (2, 9))

    def test_raised_and_caught(self):
        for name in ALL:
            numbers = [3, 4][:len(WITH_FIELDS[name])] if name in WITH_FIELDS else ["words"]
            for caught in (class_of(name), errors.SeamError, ValueError):
                with self.subTest(name=name, caught=caught.__name__):
                    with self.assertRaises(caught) as held:
                        raise class_of(name)(*numbers)
                    self.assertIs(type(held.exception), class_of(name))


if __name__ == "__main__":
    unittest.main()
