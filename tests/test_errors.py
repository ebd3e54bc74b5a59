import unittest

from cellways import errors
from cellways.errors import (
    FloorError, NoBack, NoFit, NoFloor, NoName, NoSign, NoSize, NoSpot, NoText, NoWay,
)

REFUSALS = [NoSpot, NoWay, NoSign, NoSize, NoText, NoFloor, NoName, NoFit, NoBack]


class Errors(unittest.TestCase):
    def test_floor_error_is_a_value_error(self):
        self.assertEqual(FloorError.__bases__, (ValueError,))

    def test_each_refusal_stands_under_floor_error_and_no_other(self):
        for one in REFUSALS:
            self.assertTrue(issubclass(one, FloorError))
            for other in REFUSALS:
                self.assertEqual(issubclass(one, other), one is other)

    def test_names(self):
        for refusal in REFUSALS + [FloorError]:
            self.assertIs(getattr(errors, refusal.__name__), refusal)

    def test_can_be_raised_and_taken(self):
        for refusal in REFUSALS:
            with self.assertRaises(FloorError) as taken:
                raise refusal("words")
            self.assertIs(type(taken.exception), refusal)
