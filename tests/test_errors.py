"""[5]: the error classes."""

import unittest

from leadboard import errors
from leadboard.errors import BoardError, InvalidWalkError, NotSettledError

WITH_STRING = ["InvalidLeadError", "InvalidScoresError", "InvalidOrderError", "InvalidEntryError",
               "InvalidNumberError", "InvalidLiftsError", "InvalidChangeError", "InvalidLocksError",
               "InvalidFormatError", "LockedError", "EmptyHistoryError"]
WITH_FIELD = ["InvalidWalkError", "NotSettledError"]


def made(name):
    return getattr(errors, name)("a word" if name in WITH_STRING else 3)


class Errors(unittest.TestCase):

    def test_there_are_thirteen(self):
        self.assertEqual(len(set(WITH_STRING + WITH_FIELD)), 13)

    def test_base_is_a_direct_subclass_of_value_error(self):
        self.assertEqual(BoardError.__bases__, (ValueError,))
        self.assertEqual(BoardError.__module__, "leadboard.errors")
        self.assertIsInstance(BoardError("a word"), ValueError)

    def test_each_is_a_direct_subclass_of_the_base(self):
        for name in WITH_STRING + WITH_FIELD:
            with self.subTest(name):
                kind = getattr(errors, name)
                self.assertEqual(kind.__bases__, (BoardError,))
                self.assertEqual((kind.__name__, kind.__module__), (name, "leadboard.errors"))

    def test_none_is_an_instance_of_another_one(self):
        for name in WITH_STRING + WITH_FIELD:
            error = made(name)
            kinds = [other for other in WITH_STRING + WITH_FIELD if isinstance(error, getattr(errors, other))]
            self.assertEqual(kinds, [name])

    def test_made_with_one_string_and_raised(self):
        for name in WITH_STRING + ["BoardError"]:
            with self.subTest(name), self.assertRaises(getattr(errors, name)):
                raise getattr(errors, name)("a word")

    def test_walk_error_keeps_its_index(self):
        for index in (0, 7, 377, None):
            self.assertEqual(InvalidWalkError(index).index, index)
            self.assertEqual(InvalidWalkError(index=index).index, index)
        self.assertIsNone(InvalidWalkError(None).index)

    def test_settled_error_keeps_its_place(self):
        for place in (0, 7, 26):
            self.assertEqual(NotSettledError(place).place, place)
            self.assertEqual(NotSettledError(place=place).place, place)

    def test_fields_belong_to_each_object(self):
        first, second = InvalidWalkError(1), InvalidWalkError(2)
        self.assertEqual((first.index, second.index), (1, 2))
        first, second = NotSettledError(1), NotSettledError(2)
        self.assertEqual((first.place, second.place), (1, 2))

    def test_fields_survive_a_raise(self):
        with self.assertRaises(BoardError) as caught:
            raise InvalidWalkError(index=5)
        self.assertEqual(caught.exception.index, 5)
        with self.assertRaises(ValueError) as caught:
            raise NotSettledError(place=4)
        self.assertEqual(caught.exception.place, 4)


if __name__ == "__main__":
    unittest.main()
