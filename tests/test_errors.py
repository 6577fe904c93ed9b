import unittest

from leastreads import errors
from support import ODD

BELOW = {
    "InvalidSum": ["value"],
    "InvalidData": ["value"],
    "InvalidTable": ["place"],
    "InvalidSpots": ["value"],
    "InvalidPieces": ["value"],
    "InvalidCost": ["value"],
    "InvalidWishes": ["value"],
    "InvalidStored": ["value"],
    "InvalidPlacing": ["value"],
    "InvalidOperand": ["other"],
    "InvalidNumber": ["value"],
    "LimitExceeded": ["limit"],
    "Lost": ["blind"],
    "Unsure": ["found"],
    "Unseen": ["group", "blind"],
    "NoWay": ["blocks"],
    "InvalidChange": ["value"],
    "InvalidName": ["value"],
    "InvalidText": ["place"],
    "InvalidCommand": ["word"],
    "Unsafe": ["blocks"],
}

BESIDE = {
    "UnknownName": (LookupError, ["name"]),
    "Halted": (RuntimeError, ["name"]),
    "NotHalted": (RuntimeError, []),
    "NothingToUndo": (RuntimeError, []),
    "NoTable": (RuntimeError, []),
}

ATTRIBUTES = {**BELOW, **{name: attributes for name, (_, attributes) in BESIDE.items()}}


class ErrorsTest(unittest.TestCase):
    def test_base(self):
        self.assertEqual(errors.LeastError.__bases__, (Exception,))

    def test_below_the_base_alone(self):
        for name in BELOW:
            self.assertEqual(getattr(errors, name).__bases__, (errors.LeastError,), name)

    def test_not_below_the_base(self):
        for name, (base, _) in BESIDE.items():
            self.assertEqual(getattr(errors, name).__bases__, (base,), name)
            self.assertFalse(issubclass(getattr(errors, name), errors.LeastError), name)

    def test_defined_in_this_file(self):
        for name in ["LeastError", *ATTRIBUTES]:
            self.assertEqual(getattr(errors, name).__module__, "leastreads.errors")

    def test_attributes_by_position_and_by_name(self):
        for name, attributes in ATTRIBUTES.items():
            for worth in ODD + [0, [], [1, [2]], (1, 2), LookupError("x")]:
                told = [worth, "other"][: len(attributes)]
                by_position = getattr(errors, name)(*told)
                by_name = getattr(errors, name)(**dict(zip(attributes, told)))
                for attribute, kept in zip(attributes, told):
                    self.assertIs(getattr(by_position, attribute), kept)
                    self.assertIs(getattr(by_name, attribute), kept)

    def test_both_attributes_of_unseen(self):
        error = errors.Unseen((0,), blind=(1, 0))
        self.assertEqual([error.group, error.blind], [(0,), (1, 0)])

    def test_each_takes_just_its_arguments(self):
        for name, attributes in ATTRIBUTES.items():
            if attributes:
                self.assertRaises(TypeError, getattr(errors, name))
                self.assertRaises(TypeError, getattr(errors, name), *attributes, 1)

    def test_they_are_caught_by_their_classes(self):
        for name, attributes in ATTRIBUTES.items():
            with self.assertRaises(getattr(errors, name)):
                raise getattr(errors, name)(*attributes)


if __name__ == "__main__":
    unittest.main()
