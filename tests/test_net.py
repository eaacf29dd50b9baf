"""Points 2, 4, 5 and 6: what a net is, and what it tells."""

import copy
import itertools
import random
import unittest

from postroad.errors import NoHouse, NoNet, NoRoad, RoadError
from postroad.net import Net

TWELVE = ["a", "b", "c", "d", "e", "f", "g", "h", "i", "j", "k", "l"]
ROAD = ("a", "b", 1, 1)


def nested(depth):
    thing = []
    for step in range(depth):
        thing = [thing] if step % 2 else (thing,)
    return thing


class NetCase(unittest.TestCase):
    def check_taken(self, houses, roads):
        net = Net(houses, roads)
        self.assertEqual(net.houses(), houses)
        self.assertEqual(net.roads(), roads)
        self.assertIs(type(net.houses()), list)
        self.assertIs(type(net.roads()), list)

    def check_refused(self, houses, roads):
        with self.assertRaises(RoadError) as caught:
            Net(houses, roads)
        self.assertIs(type(caught.exception), NoNet)


class TakenTest(NetCase):
    def test_nothing_at_all(self):
        self.check_taken([], [])

    def test_houses_without_roads(self):
        self.check_taken(["b", "a"], [])

    def test_twelve_houses(self):
        self.check_taken(TWELVE, [])

    def test_forty_roads(self):
        self.check_taken(["a", "b"], [ROAD] * 40)

    def test_twelve_houses_and_forty_roads(self):
        pairs = list(itertools.permutations(TWELVE, 2))[:40]
        self.check_taken(TWELVE, [(one, other, 9, 10 ** 9) for one, other in pairs])

    def test_names_of_one_and_of_eight_letters(self):
        self.check_taken(["a", "z", "abcdefgh", "zzzzzzzz"], [("abcdefgh", "z", 2, 3)])

    def test_each_small_letter(self):
        for letter in "abcdefghijklmnopqrstuvwxyz":
            self.check_taken([letter], [])

    def test_each_number_of_turns(self):
        for turns in range(1, 10):
            self.check_taken(["a", "b"], [("a", "b", turns, 1)])

    def test_least_and_greatest_room(self):
        self.check_taken(["a", "b"], [("a", "b", 1, 1), ("b", "a", 1, 10 ** 9)])

    def test_several_and_alike_roads_between_two_houses(self):
        self.check_taken(["a", "b"], [("a", "b", 2, 3), ("a", "b", 2, 3), ("a", "b", 1, 3), ("b", "a", 2, 3)])

    def test_what_is_taken_is_not_sorted(self):
        self.check_taken(["c", "a", "b"], [("c", "a", 9, 9), ("a", "b", 1, 1), ("b", "c", 5, 5)])


class RefusedHousesTest(NetCase):
    def test_thirteen_houses(self):
        self.check_refused(TWELVE + ["m"], [])

    def test_words_that_are_no_names(self):
        words = [
            "", "abcdefghi", "A", "Ab", "aB", "aZ", "1", "a1", "1a", " ", "a ", " a", "a b", "\n", "a\n", "\na",
            "a\nb", "-", "a-b", "a_b", "a.b", "`", "{", "@", "[", "~", "a~", "abcdefgh\n", "abcdefgh ",
        ]
        for word in words:
            with self.subTest(word=word):
                self.check_refused([word], [])
                self.check_refused(["a", word], [])
                self.check_refused([word, "a"], [])

    def test_a_name_twice(self):
        self.check_refused(["a", "a"], [])
        self.check_refused(["a", "b", "c", "a"], [])

    def test_other_things_in_the_place_of_a_name(self):
        things = [0, 1, -1, True, False, None, (), [], ("a",), ["a"], [["a"]], ([],), ([["a"], None],)]
        for thing in things:
            with self.subTest(thing=thing):
                self.check_refused([thing], [])
                self.check_refused(["a", thing], [])
                self.check_refused([thing, "a"], [])
                self.check_refused([thing, thing], [])

    def test_other_things_in_the_place_of_the_list(self):
        for thing in [(), ("a", "b"), None, 0, 12, True, False, "", "a", "ab"]:
            with self.subTest(thing=thing):
                self.check_refused(thing, [])
                self.check_refused(thing, [ROAD])


class RefusedRoadsTest(NetCase):
    def check_road_refused(self, road):
        self.check_refused(["a", "b", "c"], [road])
        self.check_refused(["a", "b", "c"], [ROAD, road])
        self.check_refused(["a", "b", "c"], [road, ROAD])

    def test_forty_one_roads(self):
        self.check_refused(["a", "b"], [ROAD] * 41)

    def test_roads_without_houses(self):
        self.check_refused([], [ROAD])

    def test_things_that_are_no_tuple(self):
        for road in [["a", "b", 1, 1], "abcd", "a b 1 1", 4, True, None, [], [ROAD]]:
            with self.subTest(road=road):
                self.check_road_refused(road)

    def test_a_value_more_or_less(self):
        for road in [(), ("a",), ("a", "b"), ("a", "b", 1), ("a", "b", 1, 1, 1), ("a", "b", 1, 1, None), (ROAD,)]:
            with self.subTest(road=road):
                self.check_road_refused(road)

    def test_from_and_to_that_are_no_houses(self):
        things = ["d", "", "A", "ab", "a ", "a\n", 0, 1, True, False, None, (), [], ("a",), ["a"], [["a"]]]
        for thing in things:
            with self.subTest(thing=thing):
                self.check_road_refused((thing, "b", 1, 1))
                self.check_road_refused(("a", thing, 1, 1))
                self.check_road_refused((thing, thing, 1, 1))

    def test_from_and_to_the_same(self):
        self.check_road_refused(("a", "a", 1, 1))

    def test_wrong_turns(self):
        things = [0, 10, -1, 10 ** 9, 10 ** 5000, True, False, "1", "", None, [], [1], (), (1,)]
        for place, thing in enumerate(things):
            with self.subTest(place=place):
                self.check_road_refused(("a", "b", thing, 1))

    def test_wrong_rooms(self):
        things = [0, 10 ** 9 + 1, -1, -10 ** 9, 10 ** 5000, True, False, "1", "", None, [], [1], (), (1,)]
        for place, thing in enumerate(things):
            with self.subTest(place=place):
                self.check_road_refused(("a", "b", 1, thing))

    def test_other_things_in_the_place_of_the_list(self):
        for thing in [(), (ROAD,), None, 0, 40, True, False, "", "a", ROAD]:
            with self.subTest(thing=thing):
                self.check_refused(["a", "b"], thing)
                self.check_refused([], thing)

    def test_each_mixture_in_a_road(self):
        odd = [0, True, None, "", "c", [], ["a"], ("a", [1])]
        ends = ["a", "b"] + odd
        numbers = [1, 9] + odd
        taken = 0
        for road in itertools.product(ends, ends, numbers, numbers):
            good_ends = road[:2] in [("a", "b"), ("b", "a")]
            if good_ends and not any(any(thing is other for other in odd) for thing in road):
                self.check_taken(["a", "b"], [road])
                taken += 1
            else:
                self.check_refused(["a", "b"], [road])
        self.assertEqual(taken, 8)

    def test_things_deep_within_one_another(self):
        for deep in [nested(20000), nested(20001)]:
            for houses in [deep, [deep], ["a", deep], [deep, deep]]:
                self.check_refused(houses, [])
            for road in [deep, (deep, deep, 1, 1), ("a", deep, 1, 1), ("a", "b", deep, 1), ("a", "b", 1, deep)]:
                self.check_refused(["a", "b"], [road])


class RoadsOfHousesTest(unittest.TestCase):
    def setUp(self):
        self.roads = [("a", "b", 1, 5), ("b", "a", 2, 5), ("a", "c", 3, 5), ("c", "b", 4, 5), ("a", "b", 1, 5)]
        self.net = Net(["a", "b", "c", "d"], self.roads)

    def check_refused(self, kind, asked, *handed):
        with self.assertRaises(RoadError) as caught:
            asked(*handed)
        self.assertIs(type(caught.exception), kind)

    def test_road_tells_the_tuple(self):
        self.assertEqual([self.net.road(number) for number in range(5)], self.roads)

    def test_other_numbers_are_no_roads(self):
        for number in [-1, -2, -5, -6, 5, 6, 40, 41, 10 ** 9, -10 ** 9, 10 ** 30, 10 ** 5000, -10 ** 5000]:
            self.check_refused(NoRoad, self.net.road, number)

    def test_without_roads_no_number_is_one(self):
        for number in [-1, 0, 1]:
            self.check_refused(NoRoad, Net(["a"], []).road, number)

    def test_out_of_tells_rising_numbers(self):
        told = [self.net.out_of(house) for house in ["a", "b", "c", "d"]]
        self.assertEqual(told, [[0, 2, 4], [1], [3], []])

    def test_into_tells_rising_numbers(self):
        told = [self.net.into(house) for house in ["a", "b", "c", "d"]]
        self.assertEqual(told, [[1], [0, 3, 4], [2], []])

    def test_numbers_rise_with_forty_roads(self):
        net = Net(["a", "b"], [("a", "b", 1, 1), ("b", "a", 1, 1)] * 20)
        self.assertEqual(net.out_of("a"), list(range(0, 40, 2)))
        self.assertEqual(net.into("a"), list(range(1, 40, 2)))

    def test_other_texts_are_no_houses(self):
        for text in ["", "e", "A", "ab", "a ", " a", "a\n", "not a house", "-", "0"]:
            with self.subTest(text=text):
                self.check_refused(NoHouse, self.net.out_of, text)
                self.check_refused(NoHouse, self.net.into, text)
                self.check_refused(NoHouse, self.net.far, text, "a")
                self.check_refused(NoHouse, self.net.far, "a", text)
                self.check_refused(NoHouse, self.net.far, "d", text)
                self.check_refused(NoHouse, self.net.far, text, text)

    def test_without_houses_no_text_is_one(self):
        net = Net([], [])
        self.check_refused(NoHouse, net.out_of, "a")
        self.check_refused(NoHouse, net.into, "a")
        self.check_refused(NoHouse, net.far, "a", "a")


def least_by_trying(houses, roads, house, goal):
    """The least turns over each order of houses on the way, none of them twice."""
    between = [other for other in houses if other not in (house, goal)]
    sums = []
    for length in range(len(between) + 1):
        for middle in itertools.permutations(between, length):
            stops = [house, *middle, goal]
            steps = []
            for one, other in zip(stops, stops[1:]):
                steps.append([road[2] for road in roads if road[:2] == (one, other)])
            if all(steps):
                sums.append(sum(min(step) for step in steps))
    return min(sums, default=None)


class FarTest(unittest.TestCase):
    def test_a_house_itself(self):
        net = Net(["a", "b"], [("a", "b", 1, 1), ("b", "a", 1, 1)])
        self.assertEqual([net.far("a", "a"), net.far("b", "b")], [0, 0])
        self.assertEqual(Net(["a"], []).far("a", "a"), 0)

    def test_none_where_no_roads_lead(self):
        net = Net(["a", "b", "c"], [("b", "a", 1, 1), ("c", "b", 1, 1)])
        self.assertIsNone(net.far("a", "b"))
        self.assertIsNone(net.far("a", "c"))
        self.assertIsNone(net.far("b", "c"))

    def test_roads_have_a_direction(self):
        net = Net(["a", "b"], [("a", "b", 3, 1)])
        self.assertEqual(net.far("a", "b"), 3)
        self.assertIsNone(net.far("b", "a"))

    def test_there_and_back_are_unlike(self):
        net = Net(["a", "b"], [("a", "b", 3, 1), ("b", "a", 8, 1)])
        self.assertEqual([net.far("a", "b"), net.far("b", "a")], [3, 8])

    def test_the_shortest_of_several_roads(self):
        net = Net(["a", "b"], [("a", "b", 5, 1), ("a", "b", 2, 1), ("a", "b", 7, 1)])
        self.assertEqual(net.far("a", "b"), 2)

    def test_more_roads_may_take_fewer_turns(self):
        roads = [("a", "d", 9, 1), ("a", "c", 5, 1), ("c", "d", 2, 1), ("a", "b", 1, 1), ("b", "c", 1, 1)]
        net = Net(["a", "b", "c", "d"], roads)
        self.assertEqual(net.far("a", "d"), 4)
        self.assertEqual(net.far("a", "c"), 2)

    def test_fewer_roads_may_take_fewer_turns(self):
        net = Net(["a", "b", "c"], [("a", "b", 3, 1), ("b", "c", 3, 1), ("a", "c", 5, 1)])
        self.assertEqual(net.far("a", "c"), 5)

    def test_rooms_do_not_count(self):
        net = Net(["a", "b"], [("a", "b", 3, 1), ("a", "b", 4, 10 ** 9)])
        self.assertEqual(net.far("a", "b"), 3)
        net = Net(["a", "b"], [("a", "b", 3, 10 ** 9), ("a", "b", 4, 1)])
        self.assertEqual(net.far("a", "b"), 3)

    def test_through_all_twelve_houses(self):
        roads = [(one, other, 9, 1) for one, other in zip(TWELVE, TWELVE[1:])]
        for told in [roads, roads[::-1]]:
            net = Net(TWELVE, told)
            self.assertEqual([net.far("a", house) for house in TWELVE], [9 * step for step in range(12)])
            self.assertIsNone(net.far("l", "a"))

    def test_rounds_are_no_hindrance(self):
        net = Net(["a", "b", "c"], [("a", "b", 1, 1), ("b", "a", 1, 1), ("b", "c", 4, 1)])
        self.assertEqual(net.far("a", "c"), 5)

    def test_as_by_trying_each_order_of_houses(self):
        chance = random.Random(6)
        for trial in range(60):
            houses = TWELVE[:chance.randint(2, 5)]
            roads = []
            for number in range(chance.randint(0, 10)):
                one, other = chance.sample(houses, 2)
                roads.append((one, other, chance.randint(1, 9), chance.randint(1, 9)))
            net = Net(houses, roads)
            for house, goal in itertools.permutations(houses, 2):
                with self.subTest(trial=trial, house=house, goal=goal):
                    self.assertEqual(net.far(house, goal), least_by_trying(houses, roads, house, goal))


class OwnListsTest(unittest.TestCase):
    def setUp(self):
        self.houses = ["a", "b", "c"]
        self.roads = [("a", "b", 2, 1), ("b", "c", 3, 1)]

    def told(self, net):
        return [
            net.houses(), net.roads(), net.road(0), net.out_of("a"), net.into("c"), net.far("a", "c"),
            net.far("c", "a"),
        ]

    def test_what_is_handed_in_stays_as_it_is(self):
        net = Net(self.houses, self.roads)
        self.told(net)
        self.assertEqual(self.houses, ["a", "b", "c"])
        self.assertEqual(self.roads, [("a", "b", 2, 1), ("b", "c", 3, 1)])

    def test_what_is_refused_stays_as_it_is(self):
        for houses, roads in [(["b", "a", "a"], [ROAD]), (["b", "a"], [ROAD, ["a", "b", 1, 1]]), ([["a"]], [([],)])]:
            kept = copy.deepcopy((houses, roads))
            with self.assertRaises(NoNet):
                Net(houses, roads)
            self.assertEqual((houses, roads), kept)

    def test_lists_handed_in_are_copied(self):
        net = Net(self.houses, self.roads)
        before = self.told(net)
        self.houses.append("d")
        self.houses[0] = "e"
        self.roads.append(("c", "a", 1, 1))
        self.roads[0] = ("a", "c", 1, 1)
        self.assertEqual(self.told(net), before)
        self.houses.clear()
        self.roads.clear()
        self.assertEqual(self.told(net), before)

    def test_lists_told_are_the_askers_own(self):
        net = Net(self.houses, self.roads)
        before = copy.deepcopy(self.told(net))
        net.houses().append("d")
        net.houses().clear()
        net.roads().append(("c", "a", 1, 1))
        net.roads().clear()
        net.out_of("a").append(1)
        net.into("c").clear()
        self.assertEqual(self.told(net), before)

    def test_lists_told_earlier_stay_as_they_are(self):
        net = Net(self.houses, self.roads)
        houses = net.houses()
        numbers = net.out_of("a")
        net.houses().clear()
        net.out_of("a").clear()
        self.assertEqual((houses, numbers), (["a", "b", "c"], [0]))

    def test_two_nets_keep_their_own(self):
        first = Net(self.houses, self.roads)
        before = self.told(first)
        self.houses.append("d")
        self.roads[1] = ("b", "c", 9, 1)
        second = Net(self.houses, self.roads)
        self.assertEqual(self.told(first), before)
        self.assertEqual(second.houses(), ["a", "b", "c", "d"])
        self.assertEqual([first.far("a", "c"), second.far("a", "c")], [5, 11])
        with self.assertRaises(NoHouse):
            first.out_of("d")


if __name__ == "__main__":
    unittest.main()
