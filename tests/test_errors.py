"""The refusals: which class stands under which, and their values."""

import unittest

from helper import REFUSALS
from postroad.errors import (
    BadBag,
    CutOff,
    ManyGoals,
    NoDay,
    NoHouse,
    NoLetter,
    NoNet,
    NoRoad,
    NoRow,
    NoText,
    NoWay,
    RoadError,
)


class StandingTest(unittest.TestCase):
    def test_road_error_is_a_value_error(self):
        self.assertTrue(issubclass(RoadError, ValueError))

    def test_each_refusal_stands_under_road_error(self):
        for refusal in REFUSALS:
            with self.subTest(refusal=refusal.__name__):
                self.assertTrue(issubclass(refusal, RoadError))
                self.assertTrue(issubclass(refusal, ValueError))
                self.assertIsNot(refusal, RoadError)

    def test_no_refusal_stands_under_another(self):
        for refusal in REFUSALS:
            above = [other.__name__ for other in REFUSALS if issubclass(refusal, other)]
            self.assertEqual(above, [refusal.__name__])

    def test_those_without_values_can_be_raised(self):
        for refusal in [RoadError, NoNet, NoHouse, NoRoad, ManyGoals, NoText, NoRow, NoDay]:
            with self.subTest(refusal=refusal.__name__):
                with self.assertRaises(refusal):
                    raise refusal("words")


class ValuesTest(unittest.TestCase):
    def test_no_letter_has_its_number(self):
        for number in [0, 7, -1, None, 10 ** 5000]:
            self.assertEqual(NoLetter(number).number, number)

    def test_bad_bag_has_its_place_and_reason(self):
        error = BadBag(3, "room")
        self.assertEqual((error.place, error.reason), (3, "room"))

    def test_no_way_has_its_reason_and_the_houses_seen(self):
        error = NoWay("round", ["a", "b", "a"])
        self.assertEqual((error.reason, error.seen), ("round", ["a", "b", "a"]))

    def test_cut_off_has_its_number_and_the_houses_seen(self):
        error = CutOff(2, ["a", "b"])
        self.assertEqual((error.number, error.seen), (2, ["a", "b"]))

    def test_values_stay_with_their_own_object(self):
        first = NoLetter(1)
        second = NoLetter(2)
        self.assertEqual((first.number, second.number), (1, 2))

    def test_houses_seen_are_copied(self):
        seen = ["a", "b"]
        errors = [NoWay("none", seen), CutOff(0, seen)]
        seen.append("c")
        self.assertEqual([error.seen for error in errors], [["a", "b"], ["a", "b"]])
        errors[0].seen.clear()
        self.assertEqual(errors[1].seen, ["a", "b"])
        self.assertEqual(seen, ["a", "b", "c"])


if __name__ == "__main__":
    unittest.main()
