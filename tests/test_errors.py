"""The interface of flywright/errors.py."""

import unittest

from flywright import errors
from helpers import KINDS


class ErrorsTest(unittest.TestCase):
    def test_stage_error_is_a_value_error(self):
        self.assertEqual((ValueError,), errors.StageError.__bases__)

    def test_all_others_are_straight_under_it(self):
        for kind in KINDS:
            self.assertEqual((errors.StageError,), kind.__bases__, kind)

    def test_all_are_defined_there(self):
        for kind in KINDS + [errors.StageError]:
            self.assertEqual("flywright.errors", kind.__module__)

    def test_plain_ones_take_a_text(self):
        for kind in KINDS:
            if kind not in (errors.Busy, errors.TooNear, errors.BadRow):
                self.assertEqual("why", str(kind("why")))

    def test_fields(self):
        self.assertEqual("cloth", errors.Busy("cloth").name)
        near = errors.TooNear(7, "cloth", "disc")
        self.assertEqual((7, "cloth", "disc"), (near.tick, near.one, near.other))
        self.assertEqual(3, errors.BadRow(3).row)


if __name__ == "__main__":
    unittest.main()
