"""Point 10: the classes of the errors and their attributes."""

import unittest

from ordersbehind import errors
from tests.case import Case

ATTRIBUTES = {
    "BadNumber": ("name",), "BadThing": ("name",), "BadPair": ("place",), "BadLot": ("place",), "BadRow": ("place",),
    "BadText": ("line",), "BadWays": ("place",), "BadSizes": ("place",), "BadLevels": ("place",),
    "BadSpan": ("place",), "BadCrowds": ("place",), "BadDeed": ("place",),
    "NotTied": ("first", "second"), "NotArrow": ("first", "second"), "NotClosed": ("first", "second", "third"),
    "NotBehind": ("first", "second"), "OtherWeb": ("first", "second"), "NotPart": ("thing",),
    "NotLoose": ("first", "second"), "NotInLine": ("first", "second"), "NotDrawing": ("first", "second"),
    "NotCrowd": (), "NotBar": (), "NotHeld": (), "NoMiddle": ("things",), "NothingDone": (),
    "NoOrders": ("ring",), "NoRows": ("ring", "contrary"), "NoSpans": ("four", "ring"), "TooMany": ("name",),
}


class ErrorsTest(Case):

    def test_bases(self):
        self.assertEqual(errors.BehindError.__bases__, (ValueError,))
        for name in ATTRIBUTES:
            self.assertEqual(getattr(errors, name).__bases__, (errors.BehindError,), name)

    def test_no_other_error(self):
        found = [name for name, value in vars(errors).items() if isinstance(value, type)]
        self.assertEqual(sorted(found), sorted(list(ATTRIBUTES) + ["BehindError"]))

    def test_attributes_by_position(self):
        for name, attributes in ATTRIBUTES.items():
            values = [object() for _ in attributes]
            error = getattr(errors, name)(*values)
            for attribute, value in zip(attributes, values):
                self.assertIs(getattr(error, attribute), value, name)

    def test_number_of_attributes(self):
        for name, attributes in ATTRIBUTES.items():
            if attributes:
                self.assertRaises(TypeError, getattr(errors, name), *attributes[1:])
                self.assertRaises(TypeError, getattr(errors, name), *attributes, 0)

    def test_raised_and_caught(self):
        for name, attributes in ATTRIBUTES.items():
            for kind in (getattr(errors, name), errors.BehindError, ValueError):
                with self.assertRaises(kind):
                    raise getattr(errors, name)(*attributes)


if __name__ == "__main__":
    unittest.main()
