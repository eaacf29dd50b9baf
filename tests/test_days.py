"""Points 2, 3, 21, 22 and 23: a day that is kept turn by turn."""

import random
import unittest

from helper import RefusalCase, some_letters, some_net
from postroad.days import Day
from postroad.errors import NoHouse, NoLetter, NoRoad
from postroad.net import Net
from postroad.plans import arrivals, spots_at
from postroad.runs import run
from postroad.spots import AtHome, AtHouse, OnRoad
from postroad.ways import shortest


class DayByWords:
    """A day by the words of points 21 to 23, letter by letter and road by road."""

    def __init__(self, net, first):
        self.roads = net.roads()
        self.now = first
        self.ways = {(house, goal): road for house, goal, road in shortest(net).pairs()}
        self.shut = set()
        self.lies = []
        self.goals = []

    def post(self, house, goal):
        self.lies.append((house, self.now, None))
        self.goals.append(goal)

    def letters_for(self, road):
        here = []
        for number, (house, came, by) in enumerate(self.lies):
            if house == self.roads[road][0] and came <= self.now and house != self.goals[number]:
                if self.ways.get((house, self.goals[number])) == road:
                    here.append((came, number))
        return sorted(number for came, number in sorted(here)[:self.roads[road][3]])

    def pass_turn(self):
        bags = []
        for road in range(len(self.roads)):
            numbers = self.letters_for(road)
            if numbers and road not in self.shut:
                bags.append((self.now, road, tuple(numbers)))
        for turn, road, numbers in bags:
            for number in numbers:
                self.lies[number] = (self.roads[road][1], turn + self.roads[road][2], road)
        self.now += 1
        return bags

    def line(self, number):
        house, came, by = self.lies[number]
        if came > self.now:
            return f"on {by} until {came}"
        if house == self.goals[number]:
            return f"home since {came}"
        return f"at {house} since {came}"


class DaysCase(RefusalCase):
    def check_passed(self, day, *told):
        """The bags that leave, turn by turn."""
        for bags in told:
            now = day.now()
            ahead = day.log()
            left = day.pass_turn()
            self.assertIs(type(left), list)
            self.assertEqual(left, bags)
            self.assertEqual(day.now(), now + 1)
            self.assertEqual(day.log(), ahead + bags)

    def check_lines(self, day, *lines):
        self.assertEqual([day.spot(number).line() for number in range(len(day.letters()))], list(lines))

    def check_no_letter(self, day, number, asked, *handed):
        """It is refused with the number, and nothing is changed."""
        before = self.all_of(day)
        error = self.check_refused(NoLetter, asked, *handed)
        self.assertEqual(error.number, number)
        self.assertIs(type(error.number), type(number))
        self.assertEqual(self.all_of(day), before)

    def all_of(self, day):
        letters = day.letters()
        return (day.now(), letters, day.log(), [day.spot(number).line() for number in range(len(letters))])

    def check_log_is_walked(self, net, day):
        letters = day.letters()
        self.assertEqual(len(arrivals(net, letters, day.log())), len(letters))
        spots = spots_at(net, letters, day.log(), day.now())
        self.assertEqual([spot.line() for spot in spots], [day.spot(number).line() for number in range(len(letters))])


class TurnsTest(DaysCase):
    def test_the_first_turn_and_those_behind_it(self):
        for first in [0, 1, 7, 10 ** 9]:
            day = Day(Net(["a", "b"], []), first)
            for passed in range(5):
                self.assertEqual(day.now(), first + passed)
                self.assertIs(type(day.now()), int)
                self.assertEqual(day.pass_turn(), [])

    def test_asking_passes_no_turn(self):
        day = Day(Net(["a", "b"], [("a", "b", 1, 1)]), 3)
        day.post("a", "b")
        for asked in range(3):
            self.assertEqual((day.now(), day.log(), day.letters()), (3, [], [("a", 3, "b")]))
            self.assertEqual(day.spot(0).line(), "at a since 3")

    def test_at_first_there_is_nothing(self):
        for net in [Net([], []), Net(["a", "b"], [("a", "b", 1, 1)])]:
            day = Day(net, 0)
            self.assertEqual((day.letters(), day.log()), ([], []))
            self.assertIs(type(day.letters()), list)
            self.assertIs(type(day.log()), list)
            self.check_passed(day, [], [])

    def test_a_first_turn_somewhat_beyond_its_bound(self):
        day = Day(Net(["a", "b"], []), 10 ** 9 + 7)
        self.assertEqual(day.now(), 10 ** 9 + 7)
        self.check_passed(day, [])


class PostTest(DaysCase):
    def setUp(self):
        self.net = Net(["a", "b", "c"], [("a", "b", 2, 1), ("b", "c", 1, 1)])
        self.day = Day(self.net, 4)

    def test_numbers_and_letters(self):
        told = [self.day.post("a", "b"), self.day.post("c", "a")]
        self.day.pass_turn()
        told.append(self.day.post("b", "c"))
        self.day.pass_turn()
        self.day.pass_turn()
        told.append(self.day.post("a", "b"))
        self.assertEqual(told, [0, 1, 2, 3])
        self.assertEqual([type(number) for number in told], [int] * 4)
        self.assertEqual(self.day.letters(), [("a", 4, "b"), ("c", 4, "a"), ("b", 5, "c"), ("a", 7, "b")])

    def test_the_same_house_twice(self):
        self.check_no_letter(self.day, 0, self.day.post, "a", "a")
        self.day.post("a", "b")
        self.check_no_letter(self.day, 1, self.day.post, "b", "b")
        self.assertEqual(self.day.post("b", "c"), 1)

    def test_no_house_of_the_net(self):
        self.day.post("a", "b")
        self.day.post("a", "b")
        for house, goal in [("x", "a"), ("a", "x"), ("x", "y"), ("x", "x"), ("", "a"), ("a", "A"), ("a ", "b")]:
            self.check_no_letter(self.day, 2, self.day.post, house, goal)
        self.assertEqual(self.day.post("a", "c"), 2)

    def test_later_than_the_greatest_turn(self):
        day = Day(self.net, 10 ** 9 - 1)
        self.assertEqual(day.post("a", "b"), 0)
        day.pass_turn()
        self.assertEqual(day.post("a", "b"), 1)
        day.pass_turn()
        self.check_no_letter(day, 2, day.post, "a", "b")
        day.pass_turn()
        self.check_no_letter(day, 2, day.post, "a", "b")
        late = Day(self.net, 10 ** 9)
        late.pass_turn()
        self.check_no_letter(late, 0, late.post, "a", "b")

    def test_letters_wait_and_go_behind_the_greatest_turn_too(self):
        day = Day(self.net, 10 ** 9)
        day.post("a", "b")
        day.post("a", "b")
        self.check_passed(day, [(10 ** 9, 0, (0,))], [(10 ** 9 + 1, 0, (1,))])
        self.check_lines(day, "home since 1000000002", "on 0 until 1000000003")

    def test_forty_letters_and_no_more(self):
        for number in range(40):
            self.assertEqual(self.day.post("a", "b"), number)
        self.check_no_letter(self.day, None, self.day.post, "a", "b")
        self.day.pass_turn()
        self.check_no_letter(self.day, None, self.day.post, "a", "b")
        self.check_no_letter(self.day, 40, self.day.post, "a", "a")
        self.assertEqual(len(self.day.letters()), 40)

    def test_no_more_than_thirty_turns_behind_the_least(self):
        self.day.post("a", "b")
        for turn in range(30):
            self.day.pass_turn()
        self.assertEqual(self.day.post("a", "b"), 1)
        self.day.pass_turn()
        self.check_no_letter(self.day, None, self.day.post, "a", "b")
        self.check_no_letter(self.day, 2, self.day.post, "a", "x")
        self.assertEqual(self.day.letters(), [("a", 4, "b"), ("a", 34, "b")])

    def test_turns_ahead_of_the_first_letter_do_not_count(self):
        for turn in range(100):
            self.day.pass_turn()
        self.assertEqual(self.day.post("a", "b"), 0)

    def test_what_is_refused_does_not_go(self):
        self.check_no_letter(self.day, 0, self.day.post, "a", "x")
        self.check_passed(self.day, [])
        self.assertEqual(self.day.post("a", "b"), 0)
        self.check_passed(self.day, [(5, 0, (0,))])


class WaysTest(DaysCase):
    def setUp(self):
        self.net = Net(["a", "b", "c"], [("a", "c", 1, 9), ("a", "b", 1, 9), ("b", "c", 1, 9)])
        self.day = Day(self.net, 0)

    def test_the_shortest_table_at_first(self):
        self.day.post("a", "c")
        self.day.post("a", "b")
        self.day.post("c", "a")
        self.check_passed(self.day, [(0, 0, (0,)), (0, 1, (1,))], [])
        self.check_lines(self.day, "home since 1", "home since 1", "at c since 0")

    def test_a_way_that_is_set(self):
        self.assertIsNone(self.day.set_way("a", "c", 1))
        self.day.post("a", "c")
        self.check_passed(self.day, [(0, 1, (0,))], [(1, 2, (0,))], [])
        self.check_lines(self.day, "home since 2")

    def test_a_way_that_is_dropped(self):
        self.day.post("a", "c")
        self.assertIsNone(self.day.drop_way("a", "c"))
        self.assertIsNone(self.day.drop_way("a", "c"))
        self.check_passed(self.day, [], [], [])
        self.check_lines(self.day, "at a since 0")
        self.assertIsNone(self.day.set_way("a", "c", 0))
        self.check_passed(self.day, [(3, 0, (0,))])

    def test_a_way_that_is_not_there_is_dropped(self):
        self.assertIsNone(self.day.drop_way("c", "a"))

    def test_refused(self):
        self.day.post("a", "c")
        for house, goal in [("x", "c"), ("a", "x"), ("a", "a"), ("x", "x"), ("", "c")]:
            for road in [0, 1, 99, -1]:
                self.check_refused(NoHouse, self.day.set_way, house, goal, road)
            self.check_refused(NoHouse, self.day.drop_way, house, goal)
        for road in [2, 3, -1, -3, 10 ** 9]:
            self.check_refused(NoRoad, self.day.set_way, "a", "c", road)
        self.check_refused(NoRoad, self.day.set_way, "c", "a", 0)
        self.check_passed(self.day, [(0, 0, (0,))])


class ShutTest(DaysCase):
    def setUp(self):
        self.net = Net(["a", "b", "c"], [("a", "b", 2, 2), ("b", "c", 1, 1), ("a", "c", 9, 1)])
        self.day = Day(self.net, 5)

    def test_letters_lie_while_their_road_is_shut(self):
        self.day.post("a", "b")
        self.day.post("b", "c")
        self.assertIsNone(self.day.shut(0))
        self.check_passed(self.day, [(5, 1, (1,))], [], [])
        self.check_lines(self.day, "at a since 5", "home since 6")
        self.assertIsNone(self.day.reopen(0))
        self.check_passed(self.day, [(8, 0, (0,))], [])

    def test_those_that_came_earlier_go_first_when_it_is_opened(self):
        self.day.shut(0)
        for turn in range(3):
            self.day.post("a", "b")
            self.day.post("a", "c")
            self.day.pass_turn()
        self.day.reopen(0)
        self.day.post("a", "b")
        self.check_passed(self.day, [(8, 0, (0, 1))], [(9, 0, (2, 3))], [(10, 0, (4, 5)), (10, 1, (1,))])

    def test_who_came_by_road_behind_one_of_a_greater_number(self):
        self.day.post("a", "c")
        self.day.pass_turn()
        self.day.shut(1)
        self.day.post("b", "c")
        self.check_passed(self.day, [], [], [])
        self.check_lines(self.day, "at b since 7", "at b since 6")
        self.day.reopen(1)
        self.check_passed(self.day, [(9, 1, (1,))], [(10, 1, (0,))])

    def test_twice_the_same(self):
        self.day.post("a", "b")
        for time in range(2):
            self.assertIsNone(self.day.shut(0))
        self.check_passed(self.day, [])
        for time in range(2):
            self.assertIsNone(self.day.reopen(0))
        self.check_passed(self.day, [(6, 0, (0,))])
        self.assertIsNone(self.day.reopen(1))
        self.day.shut(1)
        self.day.shut(1)
        self.day.reopen(1)
        self.day.post("b", "c")
        self.check_passed(self.day, [(7, 1, (1,))])

    def test_shut_and_opened_at_one_turn(self):
        self.day.post("a", "b")
        self.day.shut(0)
        self.day.reopen(0)
        self.check_passed(self.day, [(5, 0, (0,))])

    def test_a_shut_road_is_not_gone_round(self):
        self.day.post("a", "c")
        self.day.shut(0)
        self.check_passed(self.day, [], [])
        self.assertIsNone(self.day.set_way("a", "c", 2))
        self.check_passed(self.day, [(7, 2, (0,))])

    def test_a_way_can_be_set_to_a_shut_road(self):
        self.day.shut(2)
        self.day.set_way("a", "c", 2)
        self.day.post("a", "c")
        self.check_passed(self.day, [], [])
        self.day.reopen(2)
        self.check_passed(self.day, [(7, 2, (0,))])

    def test_one_of_two_alike_roads(self):
        day = Day(Net(["a", "b"], [("a", "b", 1, 1)] * 2), 0)
        day.shut(1)
        day.post("a", "b")
        self.check_passed(day, [(0, 0, (0,))])

    def test_another_number(self):
        self.day.shut(1)
        for number in [-1, -3, 3, 4, 40, 10 ** 10, -10 ** 10]:
            self.check_refused(NoRoad, self.day.shut, number)
            self.check_refused(NoRoad, self.day.reopen, number)
        self.day.post("a", "b")
        self.day.post("b", "c")
        self.check_passed(self.day, [(5, 0, (0,))])
        bare = Day(Net(["a", "b"], []), 0)
        self.check_refused(NoRoad, bare.shut, 0)
        self.check_refused(NoRoad, bare.reopen, 0)


class PassTest(DaysCase):
    def test_lesser_numbers_first_as_many_as_there_is_room(self):
        day = Day(Net(["a", "b"], [("a", "b", 1, 2)]), 0)
        for number in range(5):
            day.post("a", "b")
        self.check_passed(day, [(0, 0, (0, 1))], [(1, 0, (2, 3))], [(2, 0, (4,))], [])

    def test_bags_road_by_road(self):
        net = Net(["a", "b", "c"], [("b", "a", 1, 1), ("a", "c", 1, 1), ("a", "b", 1, 1)])
        day = Day(net, 2)
        for house, goal in [("a", "b"), ("a", "c"), ("b", "a")]:
            day.post(house, goal)
        self.check_passed(day, [(2, 0, (2,)), (2, 1, (1,)), (2, 2, (0,))])

    def test_letters_without_a_route_go_as_far_as_ways_lead(self):
        net = Net(["a", "b", "c", "d"], [("a", "b", 1, 1), ("b", "c", 1, 1), ("c", "d", 1, 1)])
        day = Day(net, 0)
        day.drop_way("c", "d")
        day.post("a", "d")
        self.check_passed(day, [(0, 0, (0,))], [(1, 1, (0,))], [], [])
        self.check_lines(day, "at c since 2")
        day.set_way("c", "d", 2)
        self.check_passed(day, [(4, 2, (0,))], [])
        self.check_lines(day, "home since 5")
        self.check_log_is_walked(net, day)

    def test_letters_go_round_where_ways_lead_round(self):
        net = Net(["a", "b", "c"], [("a", "b", 1, 1), ("b", "a", 2, 1), ("b", "c", 1, 1)])
        day = Day(net, 0)
        day.set_way("b", "c", 1)
        day.post("a", "c")
        self.check_passed(day, [(0, 0, (0,))], [(1, 1, (0,))], [], [(3, 0, (0,))])
        self.check_lines(day, "at b since 4")
        day.set_way("b", "c", 2)
        self.check_passed(day, [(4, 2, (0,))], [], [])
        self.check_lines(day, "home since 5")
        self.check_log_is_walked(net, day)

    def test_who_went_round_came_later(self):
        net = Net(["a", "b", "c"], [("a", "b", 1, 1), ("b", "a", 1, 1), ("a", "c", 1, 1)])
        day = Day(net, 0)
        day.set_way("a", "c", 0)
        day.set_way("b", "c", 1)
        day.post("a", "c")
        self.check_passed(day, [(0, 0, (0,))])
        day.shut(0)
        day.post("a", "c")
        self.check_passed(day, [(1, 1, (0,))])
        day.set_way("a", "c", 2)
        self.check_lines(day, "at a since 2", "at a since 1")
        self.check_passed(day, [(2, 2, (1,))], [(3, 2, (0,))])

    def test_letters_that_are_cut_off_lie(self):
        day = Day(Net(["a", "b", "c"], [("a", "b", 1, 1)]), 0)
        day.post("a", "c")
        self.check_passed(day, [], [], [])
        self.check_lines(day, "at a since 0")

    def test_a_letter_that_is_home_stays_there(self):
        day = Day(Net(["a", "b", "c"], [("a", "b", 1, 1), ("b", "c", 1, 1), ("b", "a", 1, 1)]), 0)
        day.post("a", "b")
        self.check_passed(day, [(0, 0, (0,))], [], [])
        self.check_lines(day, "home since 1")

    def test_a_way_that_is_changed_while_a_letter_is_on_a_road(self):
        net = Net(["a", "b", "c"], [("a", "b", 3, 1), ("b", "c", 1, 1), ("a", "c", 9, 1), ("b", "c", 9, 1)])
        day = Day(net, 0)
        day.post("a", "c")
        self.check_passed(day, [(0, 0, (0,))])
        day.set_way("a", "c", 2)
        day.set_way("b", "c", 3)
        self.check_lines(day, "on 0 until 3")
        self.check_passed(day, [], [], [(3, 3, (0,))])
        day.drop_way("b", "c")
        self.check_lines(day, "on 3 until 12")
        self.check_passed(day, *[[]] * 8)
        self.check_lines(day, "home since 12")

    def test_a_road_that_is_shut_while_a_letter_is_on_it(self):
        net = Net(["a", "b", "c"], [("a", "b", 3, 1), ("b", "c", 1, 1)])
        day = Day(net, 0)
        day.post("a", "c")
        self.check_passed(day, [(0, 0, (0,))])
        day.shut(0)
        day.shut(1)
        self.check_lines(day, "on 0 until 3")
        self.check_passed(day, [], [])
        self.check_lines(day, "at b since 3")
        self.check_passed(day, [])
        self.check_lines(day, "at b since 3")
        day.reopen(1)
        self.check_passed(day, [(4, 1, (0,))], [])
        self.check_lines(day, "home since 5")
        self.check_log_is_walked(net, day)

    def test_a_letter_goes_on_at_the_turn_at_which_it_comes(self):
        day = Day(Net(["a", "b", "c"], [("b", "c", 2, 1), ("a", "b", 3, 1)]), 4)
        day.post("a", "c")
        self.check_passed(day, [(4, 1, (0,))], [], [], [(7, 0, (0,))], [])

    def test_letters_that_come_late(self):
        day = Day(Net(["a", "b"], [("a", "b", 1, 1)]), 0)
        day.post("a", "b")
        day.post("a", "b")
        day.post("a", "b")
        self.check_passed(day, [(0, 0, (0,))], [(1, 0, (1,))])
        day.post("a", "b")
        self.check_passed(day, [(2, 0, (2,))], [(3, 0, (3,))], [])


class SpotTest(DaysCase):
    def setUp(self):
        self.net = Net(["a", "b", "c"], [("a", "b", 2, 1), ("b", "c", 1, 1)])
        self.day = Day(self.net, 4)

    def check_spot(self, number, kind, values):
        spot = self.day.spot(number)
        self.assertIs(type(spot), kind)
        self.assertEqual(vars(spot), values)

    def test_ahead_of_the_bags_of_the_present_turn(self):
        self.day.post("a", "c")
        self.check_spot(0, AtHouse, {"at": "a", "since": 4})
        self.day.pass_turn()
        self.check_spot(0, OnRoad, {"by": 0, "due": 6})
        self.day.pass_turn()
        self.check_spot(0, AtHouse, {"at": "b", "since": 6})
        self.day.pass_turn()
        self.check_spot(0, AtHome, {"since": 7})
        self.day.pass_turn()
        self.check_spot(0, AtHome, {"since": 7})

    def test_a_letter_that_waits(self):
        self.day.post("a", "c")
        self.day.post("a", "c")
        self.check_spot(1, AtHouse, {"at": "a", "since": 4})
        self.day.pass_turn()
        self.check_spot(1, AtHouse, {"at": "a", "since": 4})
        self.day.pass_turn()
        self.check_spot(1, OnRoad, {"by": 0, "due": 7})

    def test_a_letter_that_comes_home_at_the_present_turn(self):
        self.day.post("b", "c")
        self.day.pass_turn()
        self.check_spot(0, AtHome, {"since": 5})

    def test_numbers_that_no_posted_letter_has(self):
        for number in [0, 1, -1, 40, 10 ** 10, -10 ** 10]:
            self.check_no_letter(self.day, number, self.day.spot, number)
        self.day.post("a", "c")
        self.day.post("a", "c")
        for number in [2, 3, -1, -2, -3, 40, 10 ** 10]:
            self.check_no_letter(self.day, number, self.day.spot, number)
        self.check_lines(self.day, "at a since 4", "at a since 4")

    def test_a_refused_letter_has_no_number(self):
        self.check_no_letter(self.day, 0, self.day.post, "a", "a")
        self.check_no_letter(self.day, 0, self.day.spot, 0)


class OwnTest(DaysCase):
    def setUp(self):
        self.net = Net(["a", "b", "c"], [("a", "b", 1, 1), ("b", "c", 1, 1), ("a", "c", 9, 1)])

    def test_two_days_of_one_net(self):
        one = Day(self.net, 0)
        other = Day(self.net, 7)
        one.post("a", "c")
        one.shut(1)
        one.set_way("a", "c", 2)
        one.drop_way("b", "c")
        self.assertEqual(other.letters(), [])
        self.assertEqual(other.post("a", "c"), 0)
        self.check_passed(one, [(0, 2, (0,))])
        self.check_passed(other, [(7, 0, (0,))], [(8, 1, (0,))])
        self.assertEqual((one.now(), other.now()), (1, 9))
        self.assertEqual((one.letters(), other.letters()), ([("a", 0, "c")], [("a", 7, "c")]))
        self.assertEqual((one.log(), other.log()), ([(0, 2, (0,))], [(7, 0, (0,)), (8, 1, (0,))]))

    def test_the_net_stays_as_it_is(self):
        day = Day(self.net, 0)
        day.post("a", "c")
        day.shut(0)
        day.set_way("a", "c", 2)
        day.pass_turn()
        self.assertEqual(self.net.houses(), ["a", "b", "c"])
        self.assertEqual(self.net.roads(), [("a", "b", 1, 1), ("b", "c", 1, 1), ("a", "c", 9, 1)])
        self.assertEqual(shortest(self.net).way("a", "c"), 0)

    def test_lists_that_are_told_are_the_askers_own(self):
        day = Day(self.net, 0)
        day.post("a", "c")
        left = day.pass_turn()
        left.append("bag")
        self.assertEqual(day.log(), [(0, 0, (0,))])
        day.log().clear()
        day.letters().clear()
        day.letters().append(("a", 0, "b"))
        self.assertEqual((day.log(), day.letters()), ([(0, 0, (0,))], [("a", 0, "c")]))
        self.check_passed(day, [(1, 1, (0,))])
        self.assertEqual(left, [(0, 0, (0,)), "bag"])

    def test_what_was_told_earlier_stays_as_it_is(self):
        day = Day(self.net, 0)
        day.post("a", "c")
        told = [day.log(), day.letters(), day.pass_turn()]
        spot = day.spot(0)
        day.post("a", "b")
        day.pass_turn()
        self.assertEqual(told, [[], [("a", 0, "c")], [(0, 0, (0,))]])
        self.assertEqual(spot.line(), "at b since 1")
        spot.at = "x"
        self.check_lines(day, "home since 2", "home since 2")


class ByChanceTest(DaysCase):
    def test_a_day_without_changes_is_the_run_by_the_shortest_table(self):
        chance = random.Random(22)
        for trial in range(150):
            net = some_net(chance)
            letters = sorted(some_letters(chance, net), key=lambda letter: letter[1])
            plan = run(net, letters, shortest(net))
            first = min([letter[1] for letter in letters], default=0) - chance.choice([0, 0, 3])
            day = Day(net, max(0, first))
            last = max([letter[1] for letter in letters] + [bag[0] for bag in plan], default=0)
            waiting = list(letters)
            while day.now() <= last + 3:
                while waiting and waiting[0][1] == day.now():
                    house, turn, goal = waiting.pop(0)
                    day.post(house, goal)
                day.pass_turn()
            with self.subTest(trial=trial):
                self.assertEqual(day.letters(), letters)
                self.assertEqual(day.log(), plan)

    def change(self, chance, net, day, words):
        """One thing that may come between two turns, done to both."""
        house, goal = chance.sample(net.houses(), 2)
        kind = chance.choice(["post", "post", "post", "set", "drop", "shut", "reopen"])
        road = chance.randrange(len(net.roads())) if net.roads() else None
        first = min([letter[1] for letter in day.letters()], default=day.now())
        if kind == "post" and len(day.letters()) < 40 and day.now() - first <= 30:
            self.assertEqual(day.post(house, goal), len(words.lies))
            words.post(house, goal)
        if kind == "set" and net.out_of(house):
            road = chance.choice(net.out_of(house))
            day.set_way(house, goal, road)
            words.ways[(house, goal)] = road
        if kind == "drop":
            day.drop_way(house, goal)
            words.ways.pop((house, goal), None)
        if kind == "shut" and road is not None and chance.random() < 0.5:
            day.shut(road)
            words.shut.add(road)
        if kind == "reopen" and road is not None:
            day.reopen(road)
            words.shut.discard(road)

    def test_by_the_words(self):
        chance = random.Random(23)
        bags = home = 0
        for trial in range(150):
            net = some_net(chance, most_room=2)
            first = chance.choice([0, 9, 10 ** 9 - 60])
            day = Day(net, first)
            words = DayByWords(net, first)
            with self.subTest(trial=trial):
                for turn in range(40):
                    for time in range(chance.randint(0, 3)):
                        self.change(chance, net, day, words)
                    self.check_lines(day, *[words.line(number) for number in range(len(words.lies))])
                    self.check_passed(day, words.pass_turn())
                self.check_log_is_walked(net, day)
                bags += len(day.log())
                home += sum(turn is not None for turn in arrivals(net, day.letters(), day.log()))
        self.assertGreater(bags, 1000)
        self.assertGreater(home, 500)


if __name__ == "__main__":
    unittest.main()
