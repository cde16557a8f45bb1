"""The errors: their fields and their bases."""

import unittest

from shortestbytes import errors
from shortestbytes.values import Tag

FIELDS = {
    "BadNumber": "number",
    "BadValue": "path",
    "WrongByte": "at",
    "Unfinished": "at",
    "TooDeep": "reached",
    "BadItem": "at",
    "BadPath": "at",
    "BadDeed": "at",
    "DuplicateKey": "at",
    "BadShape": "word",
    "UnknownName": "name",
    "Circular": "name",
    "Ambiguous": "name",
    "Barren": "name",
    "TooLong": "debt",
    "NoDocument": "number",
}

ANY_VALUES = [
    0, -1, 10 ** 399, True, False, None, "", "at", "%", (), (1, "a"), [], [[None]], {}, {"a": [1]}, {True: 1},
    Tag(3, [1]), errors.WrongByte(1),
]


class Errors(unittest.TestCase):
    def test_all_sixteen_are_there_and_no_other_one(self):
        found = {
            name for name, thing in vars(errors).items()
            if isinstance(thing, type) and thing is not errors.ShortestBytesError
        }
        self.assertEqual(found, set(FIELDS))
        self.assertEqual(len(FIELDS), 16)

    def test_field_by_position(self):
        for name, field in FIELDS.items():
            for thing in ANY_VALUES:
                with self.subTest(name=name, thing=thing):
                    self.assertIs(getattr(getattr(errors, name)(thing), field), thing)

    def test_field_by_name(self):
        for name, field in FIELDS.items():
            for thing in ANY_VALUES:
                with self.subTest(name=name, thing=thing):
                    self.assertIs(getattr(getattr(errors, name)(**{field: thing}), field), thing)

    def test_just_one_field(self):
        for name, field in FIELDS.items():
            kind = getattr(errors, name)
            with self.subTest(name=name):
                self.assertEqual(vars(kind(5)), {field: 5})
                for arguments in [(), (1, 2)]:
                    with self.assertRaises(TypeError):
                        kind(*arguments)
                with self.assertRaises(TypeError):
                    kind(other=1)

    def test_bases(self):
        self.assertEqual(errors.ShortestBytesError.__bases__, (ValueError,))
        for name in FIELDS:
            with self.subTest(name=name):
                self.assertEqual(getattr(errors, name).__bases__, (errors.ShortestBytesError,))

    def test_none_is_another_one(self):
        kinds = [getattr(errors, name) for name in FIELDS]
        for kind in kinds:
            for other in kinds:
                self.assertEqual(isinstance(kind(1), other), kind is other)

    def test_can_be_raised_and_caught(self):
        for name, field in FIELDS.items():
            kind = getattr(errors, name)
            for base in (kind, errors.ShortestBytesError, ValueError):
                with self.subTest(name=name, base=base), self.assertRaises(base) as caught:
                    raise kind(7)
                self.assertEqual(getattr(caught.exception, field), 7)

    def test_the_plain_error_takes_a_message(self):
        self.assertEqual(str(errors.ShortestBytesError("so")), "so")


if __name__ == "__main__":
    unittest.main()
