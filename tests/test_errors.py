"""The classes of the interface's section askhouse/errors.py."""

import unittest

from askhouse import errors

NAMES = ["BadHouse", "BadWord", "NoRoom", "OtherDoors", "TooGreat", "NoSuch",
         "SaidOtherwise", "NotAsked", "NotYet", "NotWrong", "BadText"]


class Errors(unittest.TestCase):
    def test_head_stands_under_value_error(self):
        self.assertEqual(errors.HouseError.__bases__, (ValueError,))

    def test_each_stands_straight_beneath_the_head(self):
        for name in NAMES:
            with self.subTest(name):
                self.assertEqual(getattr(errors, name).__bases__, (errors.HouseError,))
                self.assertEqual(getattr(errors, name).__name__, name)

    def test_no_two_are_one(self):
        self.assertEqual(len({getattr(errors, name) for name in NAMES}), 11)


if __name__ == "__main__":
    unittest.main()
