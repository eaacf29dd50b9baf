"""Point 10: the four kinds of spots, their values and their lines."""

import unittest

from postroad.spots import AtHome, AtHouse, NotYet, OnRoad, Spot

KINDS = [NotYet, AtHouse, OnRoad, AtHome]


def one_of_each():
    return [NotYet(), AtHouse("inn", 3), OnRoad(4, 7), AtHome(9)]


class KindsTest(unittest.TestCase):
    def test_each_is_a_spot(self):
        for spot in one_of_each():
            self.assertIsInstance(spot, Spot)

    def test_each_is_of_one_kind_alone(self):
        for place, spot in enumerate(one_of_each()):
            self.assertEqual([isinstance(spot, kind) for kind in KINDS], [place == other for other in range(4)])

    def test_no_kind_stands_under_another(self):
        for kind in KINDS:
            self.assertEqual([other for other in KINDS if issubclass(kind, other)], [kind])
            self.assertTrue(issubclass(kind, Spot))
            self.assertFalse(issubclass(Spot, kind))

    def test_a_spot_by_itself_is_none_of_the_four(self):
        self.assertEqual([isinstance(Spot(), kind) for kind in KINDS], [False] * 4)


class ValuesTest(unittest.TestCase):
    def test_at_a_house(self):
        spot = AtHouse("inn", 3)
        self.assertEqual((spot.at, spot.since), ("inn", 3))

    def test_on_a_road(self):
        spot = OnRoad(4, 7)
        self.assertEqual((spot.by, spot.due), (4, 7))

    def test_at_home(self):
        self.assertEqual(AtHome(9).since, 9)

    def test_values_by_name(self):
        house = AtHouse(since=3, at="inn")
        road = OnRoad(due=7, by=4)
        self.assertEqual((house.at, house.since, road.by, road.due), ("inn", 3, 4, 7))
        self.assertEqual(AtHome(since=9).since, 9)

    def test_nought_and_great_turns(self):
        for turn in [0, 1, 10 ** 9, 2 * 10 ** 9 + 9]:
            self.assertEqual(AtHouse("a", turn).since, turn)
            self.assertEqual(OnRoad(0, turn).due, turn)
            self.assertEqual(AtHome(turn).since, turn)

    def test_values_stay_with_their_own_object(self):
        houses = [AtHouse("inn", 3), AtHouse("mill", 5)]
        roads = [OnRoad(4, 7), OnRoad(0, 8)]
        homes = [AtHome(9), AtHome(0)]
        self.assertEqual([(spot.at, spot.since) for spot in houses], [("inn", 3), ("mill", 5)])
        self.assertEqual([(spot.by, spot.due) for spot in roads], [(4, 7), (0, 8)])
        self.assertEqual([spot.since for spot in homes], [9, 0])
        lines = [spot.line() for spot in houses + roads + homes]
        self.assertEqual(lines, [
            "at inn since 3", "at mill since 5", "on 4 until 7", "on 0 until 8", "home since 9", "home since 0",
        ])


class LineTest(unittest.TestCase):
    def test_the_line_of_each(self):
        lines = [spot.line() for spot in one_of_each()]
        self.assertEqual(lines, ["not yet", "at inn since 3", "on 4 until 7", "home since 9"])

    def test_a_line_is_a_text(self):
        for spot in one_of_each():
            self.assertIs(type(spot.line()), str)

    def test_great_numbers_in_figures(self):
        self.assertEqual(AtHouse("abcdefgh", 10 ** 9).line(), "at abcdefgh since 1000000000")
        self.assertEqual(OnRoad(39, 2 * 10 ** 9).line(), "on 39 until 2000000000")
        self.assertEqual(AtHome(2 * 10 ** 9).line(), "home since 2000000000")


if __name__ == "__main__":
    unittest.main()
