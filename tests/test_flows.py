"""Points 2, 3 and 18: the most letters of one goal that can be home by a turn."""

import random
import time
import unittest

from helper import PaperCase, most_by_search, small_case, some_letters, some_net, sums_by_the_words
from postroad.errors import ManyGoals
from postroad.flows import most
from postroad.net import Net
from postroad.papers import paper_sum
from postroad.plans import arrivals

HOUSES = list("abcdefghijkl")


class FlowsCase(PaperCase):
    def check_most(self, net, letters, turn, number=None):
        """The plan shows that as many can be home, the paper that no more can be. Tells what was told."""
        told = most(net, letters, turn)
        self.assertIs(type(told), tuple)
        self.assertEqual([type(thing) for thing in told], [int, list, dict])
        if number is not None:
            self.assertEqual(told[0], number)
        self.check_plan(net, letters, turn, told[0], told[1])
        self.check_paper(net, letters, turn, told[0], told[2])
        return told

    def check_plan(self, net, letters, turn, number, plan):
        home = arrivals(net, letters, plan)
        by_then = [letter for letter, came in enumerate(home) if came is not None and came <= turn]
        self.assertEqual(len(by_then), number)
        self.assertEqual(sorted({letter for bag in plan for letter in bag[2]}), by_then)

    def check_paper(self, net, letters, turn, number, paper):
        self.check_paper_turns(net, paper, turn)
        for house, own, goal in letters:
            self.assertIsNone(paper[goal])
        self.assertEqual(sum(paper_sum(net, letters, paper, turn)), number)
        self.assertEqual(sum(sums_by_the_words(net, letters, paper, turn)), number)

    def check_numbers(self, net, letters, numbers):
        for turn, number in numbers:
            with self.subTest(turn=turn):
                self.check_most(net, letters, turn, number)


class OneRoadTest(FlowsCase):
    def test_one_letter(self):
        for turns in [1, 5, 9]:
            net = Net(["a", "b"], [("a", "b", turns, 1)])
            for own in [0, 7, 10 ** 9]:
                numbers = [(own, 0), (own + turns - 1, 0), (own + turns, 1), (own + turns + 1, 1), (own + 300, 1)]
                self.check_numbers(net, [("a", own, "b")], numbers)

    def test_the_plan_of_one_letter(self):
        net = Net(["a", "b"], [("a", "b", 3, 1)])
        number, plan, paper = self.check_most(net, [("a", 4, "b")], 7, 1)
        self.assertEqual(plan, [(4, 0, (0,))])
        number, plan, paper = self.check_most(net, [("a", 4, "b")], 6, 0)
        self.assertEqual(plan, [])

    def test_as_many_at_once_as_there_is_room(self):
        letters = [("a", 2, "b")] * 7
        for room, home_at_once in [(1, 1), (2, 2), (6, 6), (7, 7), (8, 7), (10 ** 9, 7)]:
            net = Net(["a", "b"], [("a", "b", 3, room)])
            numbers = [(4, 0), (5, home_at_once), (6, min(7, 2 * room)), (7, min(7, 3 * room)), (11, 7), (12, 7)]
            self.check_numbers(net, letters, numbers)

    def test_letters_of_several_turns(self):
        net = Net(["a", "b"], [("a", "b", 2, 1)])
        letters = [("a", 5, "b"), ("a", 0, "b"), ("a", 5, "b"), ("a", 0, "b"), ("a", 5, "b"), ("a", 30, "b")]
        numbers = [(1, 0), (2, 1), (3, 2), (4, 2), (6, 2), (7, 3), (8, 4), (9, 5), (31, 5), (32, 6), (330, 6)]
        self.check_numbers(net, letters, numbers)

    def test_roads_alike(self):
        net = Net(["a", "b"], [("a", "b", 2, 1)] * 3)
        self.check_numbers(net, [("a", 0, "b")] * 7, [(1, 0), (2, 3), (3, 6), (4, 7)])
        net = Net(["a", "b"], [("a", "b", 2, 10 ** 9)] * 3)
        self.check_numbers(net, [("a", 0, "b")] * 7, [(1, 0), (2, 7)])

    def test_a_slow_road_beside_a_quick_one(self):
        net = Net(["a", "b"], [("a", "b", 1, 1), ("a", "b", 4, 2)])
        self.check_numbers(net, [("a", 0, "b")] * 9, [(0, 0), (1, 1), (3, 3), (4, 6), (5, 9), (6, 9)])


class NoneHomeTest(FlowsCase):
    def test_no_letters(self):
        for net in [Net([], []), Net(["a"], []), Net(["a", "b"], []), Net(["a", "b"], [("a", "b", 1, 1)])]:
            for turn in [0, 5, 2 * 10 ** 9]:
                told = self.check_most(net, [], turn, 0)
                self.assertEqual(told, (0, [], dict.fromkeys(net.houses())))

    def test_a_net_without_roads(self):
        net = Net(["a", "b", "c"], [])
        letters = [("a", 3, "b"), ("c", 0, "b"), ("c", 9, "b")]
        for turn in [0, 2, 3, 9, 10, 300]:
            self.assertEqual(self.check_most(net, letters, turn, 0)[1], [])

    def test_a_house_without_a_road_home(self):
        net = Net(["a", "b", "c", "z"], [("a", "b", 1, 1), ("b", "a", 2, 1), ("z", "a", 1, 5), ("c", "z", 1, 1)])
        letters = [("a", 0, "z"), ("b", 2, "z"), ("a", 30, "z")]
        for turn in [0, 1, 2, 30, 31, 330]:
            self.assertEqual(self.check_most(net, letters, turn, 0)[1], [])

    def test_letters_that_cannot_come_home_beside_others(self):
        net = Net(["a", "b", "c", "z"], [("a", "b", 1, 1), ("b", "a", 2, 1), ("c", "a", 1, 5), ("c", "z", 1, 1)])
        letters = [("a", 0, "z"), ("c", 0, "z"), ("b", 2, "z"), ("c", 0, "z"), ("a", 30, "z"), ("c", 30, "z")]
        self.check_numbers(net, letters, [(0, 0), (1, 1), (2, 2), (30, 2), (31, 3), (330, 3)])

    def test_the_turn_is_ahead_of_all_letters(self):
        net = Net(["a", "b"], [("a", "b", 1, 5)])
        letters = [("a", 500, "b"), ("a", 502, "b")]
        for turn in [499, 498, 350, 200]:
            self.assertEqual(self.check_most(net, letters, turn, 0)[1], [])
        self.check_numbers(net, letters, [(500, 0), (501, 1), (502, 1), (503, 2)])

    def test_turn_0(self):
        net = Net(["a", "b"], [("a", "b", 1, 5)])
        self.check_most(net, [("a", 0, "b"), ("a", 0, "b"), ("a", 1, "b")], 0, 0)
        self.check_most(net, [("a", 1, "b")], 0, 0)


class BetweenTwoRoadsTest(FlowsCase):
    def test_they_wait_in_a_house(self):
        net = Net(["a", "b", "c"], [("a", "b", 1, 3), ("b", "c", 1, 1)])
        self.check_numbers(net, [("a", 0, "c")] * 3, [(1, 0), (2, 1), (3, 2), (4, 3)])

    def test_they_wait_long(self):
        # Two come to b at each turn, and one leaves it.
        net = Net(["a", "b", "c"], [("a", "b", 9, 2), ("b", "c", 9, 1)])
        self.check_numbers(net, [("a", 4, "c")] * 40, [(21, 0), (22, 1), (40, 19), (60, 39), (61, 40), (304, 40)])

    def test_the_first_road_is_the_narrow_one(self):
        net = Net(["a", "b", "c"], [("a", "b", 2, 1), ("b", "c", 3, 5)])
        self.check_numbers(net, [("a", 0, "c")] * 4, [(4, 0), (5, 1), (6, 2), (7, 3), (8, 4)])

    def test_letters_that_join(self):
        net = Net(["a", "b", "m", "z"], [("a", "m", 1, 5), ("b", "m", 1, 5), ("m", "z", 1, 2)])
        letters = [("a", 0, "z"), ("b", 0, "z"), ("a", 0, "z"), ("b", 0, "z"), ("m", 1, "z")]
        self.check_numbers(net, letters, [(1, 0), (2, 2), (3, 4), (4, 5)])

    def test_a_letter_comes_through_another_ones_house(self):
        net = Net(["a", "b", "c"], [("a", "b", 1, 1), ("b", "c", 1, 1)])
        letters = [("a", 0, "c"), ("b", 0, "c"), ("b", 1, "c"), ("a", 1, "c")]
        self.check_numbers(net, letters, [(0, 0), (1, 1), (2, 2), (3, 3), (4, 4)])

    def test_a_chain_of_all_houses(self):
        net = Net(HOUSES, [(one, other, 9, 1) for one, other in zip(HOUSES, HOUSES[1:])])
        letters = [("a", 10 ** 9, "l")] * 40
        first = 10 ** 9 + 99
        numbers = [(first - 1, 0), (first, 1), (first + 20, 21), (first + 38, 39), (first + 39, 40), (first + 201, 40)]
        self.check_numbers(net, letters, numbers)

    def test_all_houses_around_the_goal(self):
        net = Net(HOUSES, [(house, "a", 2, 1 + place % 3) for place, house in enumerate(HOUSES[1:])])
        letters = [(house, 0, "a") for house in HOUSES[1:] for count in range(3)]
        # Of the eleven houses four have room for one, four for two, three for three.
        self.check_numbers(net, letters, [(1, 0), (2, 4 + 8 + 9), (3, 8 + 12 + 9), (4, 33)])

    def test_the_goals_own_roads_lead_on(self):
        net = Net(["a", "z", "b"], [("a", "z", 1, 1), ("z", "b", 1, 9), ("b", "a", 1, 9), ("b", "z", 4, 1)])
        letters = [("a", 0, "z"), ("a", 0, "z"), ("b", 0, "z"), ("b", 0, "z")]
        self.check_numbers(net, letters, [(0, 0), (1, 1), (2, 2), (3, 3), (4, 4)])


class LetAnotherGoTest(FlowsCase):
    def setUp(self):
        # From a to z through m, or a longer way with more roads through n and p.
        roads = [("a", "m", 1, 1), ("m", "z", 1, 1), ("a", "n", 1, 1), ("n", "p", 1, 1), ("p", "z", 1, 1)]
        self.net = Net(["a", "m", "n", "p", "z"], roads)

    def test_one_takes_another_road(self):
        letters = [("a", 0, "z"), ("m", 1, "z"), ("m", 1, "z")]
        self.check_numbers(self.net, letters, [(1, 0), (2, 1), (3, 3)])
        plan = self.check_most(self.net, letters, 3, 3)[1]
        self.assertIn((0, 2, (0,)), plan)

    def test_whichever_number_they_have(self):
        for letters in [
            [("m", 1, "z"), ("a", 0, "z"), ("m", 1, "z")],
            [("m", 1, "z"), ("m", 1, "z"), ("a", 0, "z")],
        ]:
            self.check_numbers(self.net, letters, [(1, 0), (2, 1), (3, 3)])

    def test_one_that_came_earlier_lets_another_go(self):
        # The one of a could be at m at 1, but then one that comes at 2 wouldn't be home by 3.
        letters = [("a", 0, "z"), ("m", 0, "z"), ("m", 1, "z"), ("m", 2, "z")]
        self.check_numbers(self.net, letters, [(0, 0), (1, 1), (2, 2), (3, 4)])

    def test_one_that_waits_goes_by_another_road(self):
        net = Net(["a", "b", "z"], [("a", "z", 1, 1), ("a", "b", 1, 1), ("b", "z", 1, 1)])
        letters = [("a", 0, "z"), ("a", 0, "z"), ("a", 1, "z"), ("a", 1, "z")]
        self.check_numbers(net, letters, [(0, 0), (1, 1), (2, 3), (3, 4)])
        self.check_numbers(net, [("a", 0, "z")] * 40, [(1, 1), (2, 3), (3, 5), (20, 39), (21, 40)])

    def test_a_road_that_is_full_at_some_turns(self):
        net = Net(["a", "b", "z"], [("a", "b", 1, 4), ("b", "z", 1, 2)])
        letters = [("b", 1, "z"), ("b", 1, "z"), ("b", 2, "z"), ("a", 0, "z"), ("a", 0, "z"), ("a", 4, "z")]
        self.check_numbers(net, letters, [(1, 0), (2, 2), (3, 4), (4, 5), (5, 5), (6, 6)])


class ManyGoalsTest(FlowsCase):
    def test_letters_of_several_goals(self):
        net = Net(["a", "b", "c"], [("a", "b", 1, 1), ("b", "c", 1, 1)])
        for letters in [
            [("a", 0, "b"), ("a", 0, "c")],
            [("a", 0, "b"), ("a", 0, "b"), ("b", 0, "c")],
            [("a", 0, "b"), ("b", 0, "a")],
            [("a", 0, "c"), ("b", 0, "c"), ("c", 0, "a")],
        ]:
            for turn in [0, 1, 5, 300]:
                self.check_refused(ManyGoals, most, net, letters, turn)

    def test_also_where_none_can_be_home_yet(self):
        net = Net(["a", "b", "c"], [])
        self.check_refused(ManyGoals, most, net, [("a", 50, "b"), ("a", 50, "c")], 3)
        self.check_refused(ManyGoals, most, net, [("a", 3, "b"), ("a", 20, "c")], 3)

    def test_letters_of_one_goal_are_not_refused(self):
        net = Net(["a", "b", "c"], [])
        self.check_most(net, [("a", 3, "b"), ("c", 3, "b")], 3, 0)


class OwnListsTest(FlowsCase):
    def setUp(self):
        self.net = Net(["a", "b", "z"], [("a", "b", 1, 2), ("b", "z", 1, 1)])
        self.letters = [("a", 0, "z"), ("a", 0, "z"), ("b", 0, "z"), ("a", 9, "z")]

    def test_what_is_handed_in_stays_as_it_is(self):
        letters = list(self.letters)
        for turn in range(12):
            most(self.net, self.letters, turn)
        self.assertEqual(self.letters, letters)
        self.assertEqual(self.net.houses(), ["a", "b", "z"])
        self.assertEqual(self.net.roads(), [("a", "b", 1, 2), ("b", "z", 1, 1)])

    def test_what_is_told_is_the_askers_own(self):
        for letters in [self.letters, []]:
            for turn in [0, 2, 12]:
                number, plan, paper = most(self.net, letters, turn)
                kept = (number, list(plan), dict(paper))
                plan.append((99, 0, (0,)))
                paper.clear()
                paper["a"] = 99
                self.assertEqual(self.check_most(self.net, letters, turn), kept)

    def test_what_was_told_earlier_stays_as_it_is(self):
        number, plan, paper = most(self.net, self.letters, 2)
        kept = (number, list(plan), dict(paper))
        self.letters.clear()
        most(self.net, self.letters, 9)
        most(self.net, [("a", 3, "z")], 2)
        self.assertEqual((number, plan, paper), kept)

    def test_the_same_is_told_each_time(self):
        for turn in range(12):
            told = most(self.net, self.letters, turn)
            self.assertEqual(most(Net(self.net.houses(), self.net.roads()), list(self.letters), turn), told)


class ByChanceTest(FlowsCase):
    def test_by_a_search_of_all_plans(self):
        chance = random.Random(18)
        numbers = {}
        for trial in range(150):
            net, letters = small_case(chance, 4)
            for turn in [0, 1, 2, 3, 4, 5]:
                with self.subTest(trial=trial, turn=turn):
                    number = most_by_search(net, letters, turn)
                    self.check_most(net, letters, turn, number)
                    numbers[(len(letters), number)] = True
        self.assertEqual(len(numbers), 14)

    def test_plans_and_papers_show_it(self):
        chance = random.Random(19)
        some_home = 0
        for trial in range(500):
            net = some_net(chance, most_houses=12, most_roads=40, most_room=chance.choice([1, 1, 3, 10 ** 9]))
            letters = some_letters(chance, net, most=40, goal=chance.choice(net.houses()))
            turn = chance.choice(letters)[1] if letters else 5
            turn = max(0, turn + chance.choice([-2, 0, 1, 4, 8, 12, 20, 40]))
            with self.subTest(trial=trial):
                number = self.check_most(net, letters, turn)[0]
                some_home += 0 < number < len([letter for letter in letters if letter[1] <= turn])
        self.assertGreater(some_home, 100)

    def test_turns_300_away(self):
        chance = random.Random(20)
        for trial in range(40):
            net = some_net(chance, most_houses=12, most_roads=40)
            goal = chance.choice(net.houses())
            letters = some_letters(chance, net, most=40, goal=goal)
            if letters:
                turns = [letter[1] for letter in letters]
                with self.subTest(trial=trial):
                    reaching = [letter for letter in letters if net.far(letter[0], goal) is not None]
                    self.check_most(net, letters, max(turns) + 300, len(reaching))
                    self.check_most(net, letters, max(0, min(turns) - 300), 0)

    def test_somewhat_beyond_the_bounds(self):
        net = Net(["a", "b"], [("a", "b", 1, 1)])
        letters = [("a", 10 ** 9 + number, "b") for number in range(60)]
        self.check_numbers(net, letters, [(10 ** 9, 0), (10 ** 9 + 30, 30), (10 ** 9 + 60, 60), (10 ** 9 + 360, 60)])

    def test_answered_within_some_seconds(self):
        chance = random.Random(21)
        for trial in range(5):
            roads = []
            for number in range(40):
                one, other = chance.sample(HOUSES, 2)
                roads.append((one, other, chance.randint(1, 9), 1))
            net = Net(HOUSES, roads)
            letters = [(chance.choice(HOUSES[1:]), number % 31, "a") for number in range(40)]
            for turn in [20, 60, 100, 330]:
                began = time.monotonic()
                most(net, letters, turn)
                self.assertLess(time.monotonic() - began, 5)


if __name__ == "__main__":
    unittest.main()
