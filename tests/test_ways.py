"""Points 2, 11, 12 and 13: tables of ways, routes, and the shortest table."""

import copy
import itertools
import random
import unittest

from helper import RefusalCase, some_net, some_ways
from postroad.errors import NoHouse, NoRoad, NoWay
from postroad.net import Net
from postroad.ways import Ways, shortest

NO_HOUSES = ["", "e", "A", "ab", "a ", " a", "a\n", "not a house", "-", "0"]
NO_PAIRS = (
    [("a", text) for text in NO_HOUSES]
    + [(text, "a") for text in NO_HOUSES]
    + [(text, text) for text in NO_HOUSES]
    + [("e", "f"), ("a", "a"), ("b", "b"), ("d", "d")]
)


class WaysCase(RefusalCase):
    def setUp(self):
        roads = [
            ("a", "b", 1, 5), ("b", "a", 2, 5), ("a", "c", 3, 5), ("b", "c", 4, 5), ("a", "b", 1, 5), ("c", "d", 2, 5),
            ("c", "b", 1, 1),
        ]
        self.net = Net(["a", "b", "c", "d"], roads)
        self.ways = Ways(self.net)

    def set_ways(self, *some):
        for house, goal, road in some:
            self.assertIsNone(self.ways.set_way(house, goal, road))

    def check_pairs(self, pairs):
        self.assertIs(type(self.ways.pairs()), list)
        self.assertEqual(self.ways.pairs(), pairs)
        told = {(house, goal): road for house, goal, road in pairs}
        for house, goal in itertools.permutations(self.net.houses(), 2):
            self.assertEqual(self.ways.way(house, goal), told.get((house, goal)))


class TableTest(WaysCase):
    def test_a_new_table_tells_no_way(self):
        self.check_pairs([])

    def test_a_way_set_is_told(self):
        self.set_ways(("a", "c", 2))
        self.check_pairs([("a", "c", 2)])
        self.check_pairs([("a", "c", 2)])

    def test_road_nought_is_a_way(self):
        self.set_ways(("a", "b", 0))
        self.check_pairs([("a", "b", 0)])
        self.assertEqual(self.ways.route("a", "b"), [0])

    def test_a_way_may_lead_away_from_the_goal(self):
        self.set_ways(("a", "d", 0), ("b", "d", 1))
        self.check_pairs([("a", "d", 0), ("b", "d", 1)])

    def test_there_and_back_are_unlike(self):
        self.set_ways(("a", "b", 4))
        self.assertIsNone(self.ways.way("b", "a"))

    def test_set_otherwise(self):
        self.set_ways(("a", "c", 2), ("b", "c", 3), ("a", "c", 0))
        self.check_pairs([("a", "c", 0), ("b", "c", 3)])
        self.set_ways(("a", "c", 0))
        self.check_pairs([("a", "c", 0), ("b", "c", 3)])

    def test_dropped(self):
        self.set_ways(("a", "c", 2), ("b", "c", 3), ("a", "b", 0))
        self.assertIsNone(self.ways.drop_way("a", "c"))
        self.check_pairs([("a", "b", 0), ("b", "c", 3)])
        self.set_ways(("a", "c", 4))
        self.check_pairs([("a", "b", 0), ("a", "c", 4), ("b", "c", 3)])

    def test_dropping_where_there_is_none(self):
        self.assertIsNone(self.ways.drop_way("a", "c"))
        self.check_pairs([])
        self.set_ways(("a", "c", 2))
        self.assertIsNone(self.ways.drop_way("c", "a"))
        self.assertIsNone(self.ways.drop_way("a", "d"))
        self.assertIsNone(self.ways.drop_way("d", "a"))
        self.check_pairs([("a", "c", 2)])
        self.ways.drop_way("a", "c")
        self.assertIsNone(self.ways.drop_way("a", "c"))
        self.check_pairs([])

    def test_pairs_are_sorted(self):
        self.set_ways(("c", "a", 6), ("a", "d", 4), ("b", "c", 3), ("a", "b", 2), ("b", "a", 1), ("a", "c", 0))
        self.check_pairs([
            ("a", "b", 2), ("a", "c", 0), ("a", "d", 4), ("b", "a", 1), ("b", "c", 3), ("c", "a", 6),
        ])

    def test_pairs_are_sorted_whatever_the_order_of_houses(self):
        self.net = Net(["z", "m", "ma", "a"], [("m", "a", 1, 1), ("ma", "a", 1, 1), ("z", "a", 1, 1), ("m", "z", 1, 1)])
        self.ways = Ways(self.net)
        self.set_ways(("z", "a", 2), ("ma", "m", 1), ("m", "z", 3), ("m", "a", 0))
        self.check_pairs([("m", "a", 0), ("m", "z", 3), ("ma", "m", 1), ("z", "a", 2)])

    def test_two_tables_of_one_net_keep_their_own(self):
        other = Ways(self.net)
        self.set_ways(("a", "c", 2))
        self.assertEqual(other.pairs(), [])
        other.set_way("a", "c", 0)
        other.set_way("b", "c", 3)
        self.check_pairs([("a", "c", 2)])
        other.drop_way("a", "c")
        self.check_pairs([("a", "c", 2)])
        self.assertEqual(other.pairs(), [("b", "c", 3)])
        self.assertEqual(Ways(self.net).pairs(), [])

    def test_no_houses(self):
        ways = Ways(Net([], []))
        self.assertEqual(ways.pairs(), [])
        self.check_refused(NoHouse, ways.way, "a", "b")


class RefusedTest(WaysCase):
    def setUp(self):
        WaysCase.setUp(self)
        self.kept = [("a", "b", 0), ("a", "c", 2), ("b", "d", 3)]
        self.set_ways(*self.kept)

    def test_pairs_that_are_none(self):
        for house, goal in NO_PAIRS:
            with self.subTest(house=house, goal=goal):
                self.check_refused(NoHouse, self.ways.way, house, goal)
                self.check_refused(NoHouse, self.ways.drop_way, house, goal)
                for road in [0, 2, 6, -1, 7]:
                    self.check_refused(NoHouse, self.ways.set_way, house, goal, road)
                self.check_pairs(self.kept)

    def test_roads_that_do_not_go_out_of_the_house(self):
        for house, goal in itertools.permutations(self.net.houses(), 2):
            for road in [*range(-8, 15), 40, -41, 10 ** 9, 10 ** 5000, -10 ** 5000]:
                if road not in self.net.out_of(house):
                    self.check_refused(NoRoad, self.ways.set_way, house, goal, road)
        self.check_pairs(self.kept)

    def test_roads_into_the_house(self):
        self.check_refused(NoRoad, self.ways.set_way, "a", "b", 1)
        self.check_refused(NoRoad, self.ways.set_way, "b", "c", 0)
        self.check_refused(NoRoad, self.ways.set_way, "d", "c", 5)
        self.check_pairs(self.kept)

    def test_a_net_without_roads(self):
        ways = Ways(Net(["a", "b"], []))
        for road in [-1, 0, 1]:
            self.check_refused(NoRoad, ways.set_way, "a", "b", road)
        self.assertIsNone(ways.way("a", "b"))

    def test_refused_routes_change_nothing(self):
        for house, goal, kind in [("e", "a", NoHouse), ("a", "e", NoHouse), ("a", "d", NoWay), ("d", "a", NoWay)]:
            self.check_refused(kind, self.ways.route, house, goal)
        self.check_pairs(self.kept)


class RouteTest(WaysCase):
    def check_no_way(self, house, goal, reason, seen):
        error = self.check_refused(NoWay, self.ways.route, house, goal)
        self.assertEqual((error.reason, error.seen), (reason, seen))
        self.assertIs(type(error.seen), list)

    def test_from_a_house_to_itself(self):
        for house in self.net.houses():
            self.assertEqual(self.ways.route(house, house), [])
        self.set_ways(("a", "b", 0), ("b", "a", 1))
        self.assertEqual(self.ways.route("a", "a"), [])

    def test_one_road(self):
        self.set_ways(("a", "b", 4))
        self.assertEqual(self.ways.route("a", "b"), [4])

    def test_several_roads(self):
        self.set_ways(("b", "d", 1), ("a", "d", 2), ("c", "d", 5))
        self.assertEqual(self.ways.route("b", "d"), [1, 2, 5])
        self.assertEqual(self.ways.route("a", "d"), [2, 5])
        self.assertEqual(self.ways.route("c", "d"), [5])

    def test_ways_to_other_goals_do_not_count(self):
        self.set_ways(("a", "d", 2), ("c", "d", 5), ("a", "c", 0), ("b", "c", 3))
        self.assertEqual(self.ways.route("a", "c"), [0, 3])
        self.assertEqual(self.ways.route("a", "d"), [2, 5])

    def test_it_ends_at_the_goal(self):
        self.set_ways(("a", "b", 0), ("b", "a", 1), ("b", "c", 1), ("a", "c", 2))
        self.assertEqual(self.ways.route("a", "b"), [0])
        self.assertEqual(self.ways.route("b", "a"), [1])
        self.assertEqual(self.ways.route("b", "c"), [1, 2])

    def test_through_all_twelve_houses(self):
        houses = list("abcdefghijkl")
        self.net = Net(houses, [(one, other, 1, 1) for one, other in zip(houses, houses[1:])])
        self.ways = Ways(self.net)
        self.set_ways(*[(house, "l", road) for road, house in enumerate(houses[:-1])])
        self.assertEqual(self.ways.route("a", "l"), list(range(11)))

    def test_none_at_the_first_house(self):
        self.check_no_way("a", "c", "none", ["a"])
        self.set_ways(("a", "d", 0), ("b", "c", 3))
        self.check_no_way("a", "c", "none", ["a"])

    def test_none_further_on(self):
        self.set_ways(("b", "d", 1), ("a", "d", 2))
        self.check_no_way("b", "d", "none", ["b", "a", "c"])
        self.check_no_way("a", "d", "none", ["a", "c"])
        self.check_no_way("c", "d", "none", ["c"])

    def test_none_behind_a_way_that_was_dropped(self):
        self.set_ways(("a", "d", 2), ("c", "d", 5))
        self.ways.drop_way("c", "d")
        self.check_no_way("a", "d", "none", ["a", "c"])

    def test_round_to_the_first_house(self):
        self.set_ways(("a", "d", 0), ("b", "d", 1))
        self.check_no_way("a", "d", "round", ["a", "b", "a"])
        self.check_no_way("b", "d", "round", ["b", "a", "b"])

    def test_round_to_a_later_house(self):
        self.set_ways(("a", "d", 2), ("c", "d", 6), ("b", "d", 3))
        self.check_no_way("a", "d", "round", ["a", "c", "b", "c"])
        self.set_ways(("b", "d", 1))
        self.check_no_way("a", "d", "round", ["a", "c", "b", "a"])
        self.check_no_way("c", "d", "round", ["c", "b", "a", "c"])

    def test_round_by_alike_roads(self):
        self.set_ways(("a", "c", 4), ("b", "c", 1))
        self.check_no_way("a", "c", "round", ["a", "b", "a"])

    def test_houses_that_are_none(self):
        for text in NO_HOUSES:
            with self.subTest(text=text):
                self.check_refused(NoHouse, self.ways.route, text, "a")
                self.check_refused(NoHouse, self.ways.route, "a", text)
                self.check_refused(NoHouse, self.ways.route, text, text)

    def test_as_by_walking(self):
        chance = random.Random(12)
        ends = {"none": 0, "round": 0, "home": 0}
        for trial in range(150):
            self.net = some_net(chance)
            self.ways = some_ways(chance, self.net)
            for house, goal in itertools.permutations(self.net.houses(), 2):
                with self.subTest(trial=trial, house=house, goal=goal):
                    ends[self.check_by_walking(house, goal)] += 1
        self.assertTrue(all(count > 20 for count in ends.values()), ends)

    def check_by_walking(self, house, goal):
        seen = [house]
        roads = []
        while seen[-1] != goal and len(set(seen)) == len(seen) and self.ways.way(seen[-1], goal) is not None:
            roads.append(self.ways.way(seen[-1], goal))
            seen.append(self.net.road(roads[-1])[1])
        if seen[-1] == goal:
            self.assertEqual(self.ways.route(house, goal), roads)
            return "home"
        reason = "none" if len(set(seen)) == len(seen) else "round"
        self.check_no_way(house, goal, reason, seen)
        return reason


class ShortestTest(RefusalCase):
    def check_shortest(self, net, pairs):
        told = shortest(net)
        self.assertIs(type(told), Ways)
        self.assertEqual(told.pairs(), pairs)

    def test_no_houses_and_no_roads(self):
        self.check_shortest(Net([], []), [])
        self.check_shortest(Net(["a"], []), [])
        self.check_shortest(Net(["a", "b", "c"], []), [])

    def test_a_way_just_where_roads_lead(self):
        net = Net(["a", "b", "c", "d"], [("a", "b", 2, 1), ("b", "c", 3, 1)])
        self.check_shortest(net, [("a", "b", 0), ("a", "c", 0), ("b", "c", 1)])

    def test_no_way_of_a_house_to_itself(self):
        net = Net(["a", "b"], [("a", "b", 1, 1), ("b", "a", 1, 1)])
        self.check_shortest(net, [("a", "b", 0), ("b", "a", 1)])
        for house in ["a", "b"]:
            self.check_refused(NoHouse, shortest(net).way, house, house)
            self.assertEqual(shortest(net).route(house, house), [])

    def test_of_alike_roads_the_least_number(self):
        net = Net(["a", "b"], [("a", "b", 5, 1), ("a", "b", 2, 1), ("a", "b", 2, 9), ("a", "b", 3, 1)])
        self.check_shortest(net, [("a", "b", 1)])

    def test_of_unlike_ways_of_the_same_turns_the_least_number(self):
        roads = [("a", "c", 5, 1), ("a", "b", 2, 1), ("b", "c", 3, 1)]
        self.check_shortest(Net(["a", "b", "c"], roads), [("a", "b", 1), ("a", "c", 0), ("b", "c", 2)])
        roads = [("a", "b", 2, 1), ("a", "c", 5, 1), ("b", "c", 3, 1)]
        self.check_shortest(Net(["a", "b", "c"], roads), [("a", "b", 0), ("a", "c", 0), ("b", "c", 2)])

    def test_fewest_turns_go_ahead_of_the_least_number(self):
        roads = [("a", "c", 6, 9), ("a", "b", 2, 1), ("b", "c", 3, 1)]
        self.check_shortest(Net(["a", "b", "c"], roads), [("a", "b", 1), ("a", "c", 1), ("b", "c", 2)])

    def test_rooms_do_not_count(self):
        net = Net(["a", "b"], [("a", "b", 4, 10 ** 9), ("a", "b", 3, 1)])
        self.check_shortest(net, [("a", "b", 1)])

    def test_a_short_road_that_leads_nowhere_near(self):
        net = Net(["a", "b", "c"], [("a", "c", 1, 1), ("a", "b", 9, 1)])
        self.check_shortest(net, [("a", "b", 1), ("a", "c", 0)])

    def test_it_can_be_set_and_dropped_like_others(self):
        net = Net(["a", "b"], [("a", "b", 1, 1), ("a", "b", 2, 1)])
        ways = shortest(net)
        ways.set_way("a", "b", 1)
        self.assertEqual(ways.pairs(), [("a", "b", 1)])
        self.check_shortest(net, [("a", "b", 0)])
        ways.drop_way("a", "b")
        self.assertEqual(ways.pairs(), [])
        self.check_shortest(net, [("a", "b", 0)])

    def test_by_chance(self):
        chance = random.Random(13)
        for trial in range(80):
            with self.subTest(trial=trial):
                self.check_by_far(some_net(chance, most_houses=12, most_roads=40))

    def check_by_far(self, net):
        ways = shortest(net)
        for house, goal in itertools.permutations(net.houses(), 2):
            least = net.far(house, goal)
            fitting = []
            for number in net.out_of(house):
                behind = net.far(net.road(number)[1], goal)
                if behind is not None and net.road(number)[2] + behind == least:
                    fitting.append(number)
            self.assertEqual(ways.way(house, goal), min(fitting, default=None))
            if least is None:
                self.assertEqual(self.check_refused(NoWay, ways.route, house, goal).seen, [house])
            else:
                self.assertEqual(sum(net.road(number)[2] for number in ways.route(house, goal)), least)


class OwnListsTest(WaysCase):
    def test_lists_told_are_the_askers_own(self):
        self.set_ways(("a", "d", 2), ("c", "d", 5))
        self.ways.pairs().clear()
        self.ways.pairs().append(("b", "d", 3))
        self.ways.route("a", "d").append(9)
        self.ways.route("a", "d").clear()
        self.ways.route("a", "a").append(9)
        self.check_pairs([("a", "d", 2), ("c", "d", 5)])
        self.assertEqual(self.ways.route("a", "d"), [2, 5])
        self.assertEqual(self.ways.route("a", "a"), [])

    def test_an_empty_list_told_is_the_askers_own(self):
        self.ways.pairs().append(("b", "d", 3))
        self.check_pairs([])
        self.assertEqual(Ways(self.net).pairs(), [])

    def test_lists_told_earlier_stay_as_they_are(self):
        self.set_ways(("a", "d", 2), ("c", "d", 5))
        told = [self.ways.pairs(), self.ways.route("a", "d")]
        before = copy.deepcopy(told)
        self.set_ways(("a", "d", 0), ("b", "d", 3))
        self.ways.drop_way("c", "d")
        self.ways.pairs()
        self.assertEqual(told, before)

    def test_houses_seen_are_the_askers_own(self):
        self.set_ways(("a", "d", 0), ("b", "d", 1))
        first = self.check_refused(NoWay, self.ways.route, "a", "d")
        first.seen.clear()
        self.assertEqual(self.check_refused(NoWay, self.ways.route, "a", "d").seen, ["a", "b", "a"])
        self.ways.drop_way("b", "d")
        second = self.check_refused(NoWay, self.ways.route, "a", "d")
        self.ways.drop_way("a", "d")
        self.assertEqual(second.seen, ["a", "b"])

    def test_the_net_stays_as_it_is(self):
        houses, roads = self.net.houses(), self.net.roads()
        self.set_ways(("a", "d", 2), ("c", "d", 5))
        self.ways.route("a", "d")
        self.ways.drop_way("a", "d")
        shortest(self.net).drop_way("a", "b")
        self.assertEqual((self.net.houses(), self.net.roads()), (houses, roads))


if __name__ == "__main__":
    unittest.main()
