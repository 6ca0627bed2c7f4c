"""Refusals: their classes and their fields."""

import unittest

from roomslaid import errors
from roomslaid.errors import RoomError
from tests.helper import ODD

FIELDS = {
    "NoRoom": ["found"], "NoPlace": ["found"], "NoShapes": ["line"], "UnknownShape": ["line", "name"],
    "NamedTwice": ["line", "name"], "TooMuch": ["line"], "NoRecord": ["found"], "NoPath": ["path"],
    "Beyond": ["found"], "Other": ["found"], "NoLaying": ["line"], "UnknownUnit": ["line", "unit"],
    "LaidTwice": ["line", "unit"], "Lacking": ["unit"], "Past": ["unit", "thing", "cell"],
    "Meets": ["unit", "thing", "second", "another"], "NoProgram": ["line"], "WrongPath": ["line", "path"],
    "NoInput": ["name"], "NoThings": ["found"], "NoBudget": ["found"], "NoLine": ["found"], "NoKeep": ["found"],
    "NoLayings": ["found"], "NoTurn": ["found"], "NoOpen": ["found"], "NoDesk": ["line"],
}


class Classes(unittest.TestCase):

    def test_there_are_these_and_no_others(self):
        made = [name for name, thing in vars(errors).items() if isinstance(thing, type)]
        self.assertEqual(sorted(made), sorted(list(FIELDS) + ["RoomError"]))
        self.assertEqual(len(FIELDS), 27)

    def test_each_stands_straight_under_room_error(self):
        for name in FIELDS:
            self.assertEqual(getattr(errors, name).__bases__, (RoomError,), name)

    def test_room_error_stands_under_value_error(self):
        self.assertEqual(RoomError.__bases__, (ValueError,))

    def test_room_error_is_made_of_a_text_and_has_no_field(self):
        error = RoomError("some words")
        self.assertEqual(vars(error), {})
        self.assertEqual(str(error), "some words")


class Fields(unittest.TestCase):

    def test_they_have_their_names_and_their_order(self):
        for name, fields in FIELDS.items():
            handed = [["thing of", field] for field in fields]
            error = getattr(errors, name)(*handed)
            self.assertEqual(list(vars(error)), fields, name)
            for field, thing in zip(fields, handed):
                self.assertIs(getattr(error, field), thing, name)

    def test_each_may_be_anything(self):
        for name, fields in FIELDS.items():
            for thing in ODD:
                error = getattr(errors, name)(*[thing for field in fields])
                for field in fields:
                    self.assertIs(getattr(error, field), thing, name)

    def test_a_field_is_no_copy(self):
        found = [1]
        error = errors.NoRecord(found)
        found.append(2)
        self.assertEqual(error.found, [1, 2])

    def test_too_few_or_too_many_are_not_taken(self):
        for name, fields in FIELDS.items():
            for count in (len(fields) - 1, len(fields) + 1):
                with self.assertRaises(TypeError):
                    getattr(errors, name)(*range(count))

    def test_they_say_some_words(self):
        for name, fields in FIELDS.items():
            self.assertTrue(str(getattr(errors, name)(*fields)), name)


if __name__ == "__main__":
    unittest.main()
