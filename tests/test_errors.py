"""Errors: 0.3."""

import copy
import pickle
import unittest

from neverjoin import errors
from plain import odd_things

FIELDS = {
    "BadWeb": "part", "NoStretch": None, "NoNumber": None, "TooMany": "most", "TooLong": "most", "NoLetters": None,
    "NoText": None, "NoNames": None, "NoTexts": None, "BadBook": "part", "NoPlace": None, "NotFull": None,
    "NoRing": None, "NoLot": None, "OneWay": None, "NoExchange": None, "NoPath": None, "NoWeb": None,
    "NoChances": None, "NoPrices": None, "NoPlaces": None, "NoJumps": None, "NoAddress": None, "NoRow": None,
    "NotNear": None, "NoLetter": None, "NoWord": None, "NothingDone": None, "BadText": "line", "NoLine": None,
    "NoName": "name",
}


class Errors(unittest.TestCase):
    def test_each_derives_directly_from_the_common_one(self):
        self.assertEqual(errors.JoinError.__bases__, (ValueError,))
        for name in FIELDS:
            kind = getattr(errors, name)
            self.assertEqual((kind.__bases__, kind.__module__), ((errors.JoinError,), "neverjoin.errors"))

    def test_there_are_no_other_ones(self):
        kinds = {name for name, thing in vars(errors).items() if isinstance(thing, type)}
        self.assertEqual(kinds, set(FIELDS) | {"JoinError"})

    def test_fields_keep_what_is_passed(self):
        for name, field in FIELDS.items():
            if field is None:
                error = getattr(errors, name)()
                self.assertEqual(vars(error), {})
                continue
            for thing in odd_things():
                error = getattr(errors, name)(thing)
                self.assertIs(getattr(error, field), thing)
                self.assertEqual(list(vars(error)), [field])

    def test_made_with_just_their_fields(self):
        for name, field in FIELDS.items():
            kind = getattr(errors, name)
            with self.assertRaises(TypeError):
                kind("a", "b")
            with self.assertRaises(TypeError):
                kind("a") if field is None else kind()

    def test_copies_keep_the_fields(self):
        error = errors.TooMany(2000)
        self.assertEqual(copy.copy(error).most, 2000)
        self.assertEqual(pickle.loads(pickle.dumps(error)).most, 2000)


if __name__ == "__main__":
    unittest.main()
