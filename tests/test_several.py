"""Points 2, 3 and 20: letters of several goals, two turns and a plan."""

import random
import time
import unittest

from helper import RefusalCase, most_by_search, some_letters, some_net
from postroad.errors import CutOff, NoLetter
from postroad.least import least
from postroad.net import Net
from postroad.plans import arrivals
from postroad.runs import run
from postroad.several import bounds
from postroad.ways import shortest

HOUSES = list("abcdefghijkl")


def last_by_ways(net, letters):
    return max(arrivals(net, letters, run(net, letters, shortest(net))))


def greatest_least(net, letters):
    goals = sorted({letter[2] for letter in letters})
    return max(least(net, [letter for letter in letters if letter[2] == goal])[0] for goal in goals)


def small_case_of_goals(chance, most_letters):
    """A net and letters of several goals, all with roads home, so few that all that can be done can be searched."""
    houses = list("abcd"[:chance.randint(2, 4)])
    # Houses that lie behind one road are what makes goals stand in each other's way.
    roads = [("a", "b", 1, 1)] + [("b", house, 1, 1) for house in houses[2:]]
    for number in range(chance.randint(0, 3)):
        one, other = chance.sample(houses, 2)
        roads.append((one, other, chance.randint(1, 2), chance.choice([1, 1, 2])))
    chance.shuffle(roads)
    net = Net(houses, roads)
    letters = []
    for number in range(chance.randint(1, most_letters)):
        one, other = chance.choice([chance.sample(houses, 2), ["a", chance.choice(houses[1:])]])
        if net.far(one, other) is not None:
            letters.append((one, chance.choice([0, 0, 1, 2]), other))
    return net, letters


class SeveralCase(RefusalCase):
    def check_bounds(self, net, letters, low=None, high=None):
        """All that holds of each answer, and the two turns where they are known. Tells what was told."""
        told = bounds(net, letters)
        self.assertIs(type(told), tuple)
        self.assertEqual([type(thing) for thing in told], [int, int, list])
        home = arrivals(net, letters, told[2])
        self.assertNotIn(None, home)
        self.assertEqual(max(home), told[1])
        self.assertEqual(told[0], greatest_least(net, letters))
        self.assertLessEqual(told[0], told[1])
        self.assertLessEqual(told[1], last_by_ways(net, letters))
        if len({letter[2] for letter in letters}) == 1:
            self.assertEqual(told[0], told[1])
        if low is not None:
            self.assertEqual(told[:2], (low, high))
        return told

    def check_cut_off(self, net, letters, number, seen):
        self.check_cut_off_by(bounds, net, letters, number, seen)


class OneGoalTest(SeveralCase):
    def test_one_letter_alone(self):
        for turns in [1, 5, 9]:
            net = Net(["a", "b"], [("a", "b", turns, 1)])
            for own in [0, 7, 10 ** 9]:
                told = self.check_bounds(net, [("a", own, "b")], own + turns, own + turns)
                self.assertEqual(told[2], [(own, 0, (0,))])

    def test_low_and_high_are_the_same(self):
        net = Net(["a", "b"], [("a", "b", 4, 1)])
        for count in [1, 2, 17, 40]:
            self.check_bounds(net, [("a", 5, "b")] * count, 8 + count, 8 + count)

    def test_also_where_the_shortest_table_is_slower(self):
        net = Net(["a", "b"], [("a", "b", 1, 1), ("a", "b", 4, 1)])
        letters = [("a", 0, "b")] * 40
        self.assertEqual(last_by_ways(net, letters), 40)
        self.check_bounds(net, letters, 22, 22)

    def test_by_chance(self):
        chance = random.Random(201)
        asked = sooner = 0
        for trial in range(60):
            net = some_net(chance, most_houses=12, most_roads=40, most_room=chance.choice([1, 3]))
            goal = chance.choice(net.houses())
            letters = some_letters(chance, net, most=40, goal=goal)
            letters = [letter for letter in letters if net.far(letter[0], goal) is not None]
            if letters:
                with self.subTest(trial=trial):
                    turn = least(net, letters)[0]
                    self.check_bounds(net, letters, turn, turn)
                    asked += 1
                    sooner += turn < last_by_ways(net, letters)
        self.assertGreater(asked, 30)
        self.assertGreater(sooner, 5)


class SeveralGoalsTest(SeveralCase):
    def test_two_goals_on_one_road_with_room_for_one(self):
        net = Net(["a", "b", "c", "d"], [("a", "b", 1, 1), ("b", "c", 1, 1), ("b", "d", 1, 1)])
        self.check_bounds(net, [("a", 0, "c"), ("a", 0, "d")], 2, 3)
        letters = [("a", 0, "c"), ("a", 0, "d"), ("a", 0, "c"), ("a", 0, "d")]
        self.check_bounds(net, letters, 3, 5)

    def test_three_goals_on_one_road_with_room_for_one(self):
        roads = [("a", "b", 1, 1), ("b", "c", 1, 1), ("b", "d", 1, 1), ("b", "e", 1, 1)]
        net = Net(["a", "b", "c", "d", "e"], roads)
        self.check_bounds(net, [("a", 7, "c"), ("a", 7, "d"), ("a", 7, "e")], 9, 11)

    def test_eleven_goals_on_one_road_with_room_for_one(self):
        roads = [("a", "b", 1, 1)] + [("b", goal, 1, 1) for goal in HOUSES[2:]]
        net = Net(HOUSES, roads)
        self.check_bounds(net, [("a", 0, goal) for goal in HOUSES[1:]], 2, 11)

    def test_goals_on_the_way_to_others(self):
        net = Net(["a", "b", "c"], [("a", "b", 1, 1), ("b", "c", 3, 1)])
        self.check_bounds(net, [("a", 0, "b"), ("a", 0, "c")], 4, 4)

    def test_goals_apart(self):
        net = Net(["a", "b", "c", "d"], [("a", "b", 9, 1), ("c", "d", 2, 1)])
        self.check_bounds(net, [("a", 0, "b"), ("c", 3, "d")], 9, 9)
        self.check_bounds(net, [("a", 0, "b"), ("c", 9, "d")], 11, 11)
        self.check_bounds(net, [("a", 0, "b")] + [("c", 3, "d")] * 10, 14, 14)

    def test_there_and_back(self):
        net = Net(["a", "b"], [("a", "b", 2, 1), ("b", "a", 3, 1)])
        self.check_bounds(net, [("a", 0, "b"), ("b", 0, "a")], 3, 3)
        self.check_bounds(net, [("a", 0, "b")] * 5 + [("b", 0, "a")] * 5, 7, 7)

    def test_sooner_than_by_the_shortest_table(self):
        net = Net(["a", "b", "c"], [("a", "b", 1, 1), ("a", "b", 2, 1), ("b", "c", 1, 9)])
        letters = [("a", 0, "b")] * 4 + [("a", 0, "c")] * 4
        told = self.check_bounds(net, letters)
        self.assertLess(told[1], last_by_ways(net, letters))

    def test_no_goal_is_left_behind_the_others(self):
        chain = [(one, other, 9, 1) for one, other in zip(HOUSES, HOUSES[1:])]
        letters = [("a", 0, HOUSES[1 + number % 11]) for number in range(40)]
        self.check_bounds(Net(HOUSES, chain), letters)

    def test_letters_near_the_greatest_turn(self):
        net = Net(["a", "b", "c"], [("a", "b", 1, 1), ("b", "c", 3, 1)])
        first = 10 ** 9 - 30
        letters = [("a", first, "c"), ("a", 10 ** 9, "b"), ("a", 10 ** 9, "c"), ("a", 10 ** 9, "b")]
        self.check_bounds(net, letters, 10 ** 9 + 4, 10 ** 9 + 4)

    def test_somewhat_beyond_the_bounds(self):
        net = Net(["a", "b", "c"], [("a", "b", 1, 1), ("b", "c", 1, 1)])
        letters = [("a", 10 ** 9 + 50, "b")] * 30 + [("a", 10 ** 9 + 50, "c")] * 30 + [("a", 10 ** 9, "c")]
        self.check_bounds(net, letters, 10 ** 9 + 81, 10 ** 9 + 110)


class RunIsBetterTest(SeveralCase):
    """Here some orders in which the goals may be taken one by one end later than the run by the shortest table."""

    def test_one_road_behind_another(self):
        net = Net(["c", "e", "a"], [("c", "e", 2, 1), ("e", "a", 2, 1)])
        letters = [("c", 0, "a"), ("c", 2, "e"), ("c", 0, "e")]
        self.check_bounds(net, letters, 4, 4)
        self.check_bounds(net, [letters[1], letters[2], letters[0]], 4, 4)
        self.check_bounds(net, [letters[2], letters[0], letters[1]], 4, 4)

    def test_letters_that_wait_for_others(self):
        net = Net(["a", "b", "c"], [("b", "c", 2, 1), ("a", "b", 1, 1)])
        letters = [("a", 1, "c"), ("a", 0, "c"), ("a", 1, "b"), ("a", 2, "b"), ("a", 2, "b")]
        self.assertEqual(last_by_ways(net, letters), 5)
        self.check_bounds(net, letters, 4, 5)

    def test_a_round(self):
        roads = [("b", "a", 2, 1), ("b", "a", 2, 1), ("a", "c", 1, 1), ("c", "b", 1, 1), ("c", "b", 3, 1)]
        letters = [("b", 1, "c"), ("a", 1, "b"), ("a", 1, "c"), ("a", 1, "c")]
        self.assertEqual(last_by_ways(Net(["a", "b", "c"], roads), letters), 5)
        self.check_bounds(Net(["a", "b", "c"], roads), letters)

    def test_letters_on_a_round_by_chance(self):
        chance = random.Random(202)
        net = Net(["a", "b", "c"], [("a", "b", 1, 1), ("b", "c", 2, 1), ("c", "a", 1, 1)])
        for trial in range(300):
            letters = []
            for number in range(chance.randint(2, 6)):
                house, goal = chance.sample("abc", 2)
                letters.append((house, chance.randint(0, 2), goal))
            self.check_bounds(net, letters)


class RefusedTest(SeveralCase):
    def setUp(self):
        self.net = Net(["a", "b", "c", "d"], [("a", "b", 1, 1), ("b", "c", 1, 1)])

    def test_no_letters(self):
        for net in [Net([], []), Net(["a"], []), self.net]:
            self.assertIsNone(self.check_refused(NoLetter, bounds, net, []).number)

    def test_several_goals_are_not_refused(self):
        self.check_bounds(self.net, [("a", 0, "b"), ("a", 0, "c")], 2, 2)

    def test_cut_off(self):
        self.check_cut_off(self.net, [("a", 0, "d")], 0, ["a", "b", "c"])
        self.check_cut_off(self.net, [("b", 0, "a")], 0, ["b", "c"])
        self.check_cut_off(self.net, [("d", 0, "a")], 0, ["d"])

    def test_the_first_letter_that_is_cut_off_from_its_own_goal(self):
        letters = [("a", 9, "c"), ("b", 9, "c"), ("a", 9, "b"), ("b", 9, "a"), ("d", 0, "a"), ("c", 9, "d")]
        self.check_cut_off(self.net, letters, 3, ["b", "c"])
        self.check_cut_off(self.net, letters[:3] + letters[4:], 3, ["d"])
        self.check_cut_off(self.net, letters[:3] + letters[5:], 3, ["c"])
        self.check_cut_off(self.net, letters[5:] + letters[:5], 0, ["c"])
        self.check_bounds(self.net, letters[:3])

    def test_a_goal_that_others_come_to(self):
        self.check_cut_off(self.net, [("a", 0, "c"), ("d", 0, "b"), ("d", 0, "c")], 1, ["d"])

    def test_a_net_without_roads(self):
        self.check_cut_off(Net(["a", "b"], []), [("b", 0, "a"), ("a", 0, "b")], 0, ["b"])

    def test_seen_in_the_nets_order(self):
        roads = [("d", "c", 1, 1), ("c", "a", 1, 1), ("a", "e", 1, 1), ("e", "d", 1, 1)]
        for houses in [["a", "b", "c", "d", "e"], ["e", "d", "c", "b", "a"], ["c", "e", "b", "a", "d"]]:
            seen = [house for house in houses if house != "b"]
            self.check_cut_off(Net(houses, roads), [("d", 0, "a"), ("a", 0, "b")], 1, seen)

    def test_seen_is_the_askers_own(self):
        self.check_refused(CutOff, bounds, self.net, [("a", 0, "d")]).seen.clear()
        self.check_cut_off(self.net, [("a", 0, "d")], 0, ["a", "b", "c"])
        self.assertEqual(self.net.houses(), ["a", "b", "c", "d"])

    def test_cut_off_by_the_words(self):
        chance = random.Random(203)
        refused = 0
        for trial in range(200):
            net = some_net(chance, most_roads=8)
            letters = some_letters(chance, net, most=6)
            cut = [number for number, letter in enumerate(letters) if net.far(letter[0], letter[2]) is None]
            if cut:
                house = letters[cut[0]][0]
                seen = [other for other in net.houses() if net.far(house, other) is not None]
                self.check_cut_off(net, letters, cut[0], seen)
                refused += 1
        self.assertGreater(refused, 50)


class OwnListsTest(SeveralCase):
    def setUp(self):
        self.net = Net(["a", "b", "c"], [("a", "b", 1, 1), ("a", "b", 2, 1), ("b", "c", 1, 1)])
        self.letters = [("a", 0, "c"), ("a", 0, "b"), ("b", 0, "c"), ("a", 0, "b")]

    def test_what_is_handed_in_stays_as_it_is(self):
        letters = list(self.letters)
        self.check_bounds(self.net, self.letters)
        self.assertEqual(self.letters, letters)
        self.assertEqual(self.net.houses(), ["a", "b", "c"])
        self.assertEqual(self.net.roads(), [("a", "b", 1, 1), ("a", "b", 2, 1), ("b", "c", 1, 1)])

    def test_what_is_told_is_the_askers_own(self):
        low, high, plan = bounds(self.net, self.letters)
        kept = (low, high, list(plan))
        plan.clear()
        self.assertEqual(bounds(self.net, self.letters), kept)

    def test_what_was_told_earlier_stays_as_it_is(self):
        low, high, plan = bounds(self.net, self.letters)
        kept = list(plan)
        self.letters[:] = [("a", 7, "c")]
        self.check_bounds(self.net, self.letters, 9, 9)
        self.assertEqual(plan, kept)

    def test_the_same_is_told_each_time(self):
        told = bounds(self.net, self.letters)
        self.assertEqual(bounds(Net(self.net.houses(), self.net.roads()), list(self.letters)), told)


class ByChanceTest(SeveralCase):
    def test_by_a_search_of_all_plans(self):
        chance = random.Random(204)
        asked = apart = 0
        for trial in range(250):
            net, letters = small_case_of_goals(chance, 4)
            if letters:
                with self.subTest(trial=trial):
                    low, high, plan = self.check_bounds(net, letters)
                    self.assertLess(most_by_search(net, letters, low - 1), len(letters))
                    self.assertEqual(most_by_search(net, letters, high), len(letters))
                    asked += 1
                    apart += low < high
        self.assertGreater(asked, 100)
        self.assertGreater(apart, 3)

    def test_many_letters(self):
        chance = random.Random(205)
        sooner = same = 0
        for trial in range(150):
            net = some_net(chance, most_houses=12, most_roads=40, most_room=chance.choice([1, 1, 3, 10 ** 9]))
            letters = some_letters(chance, net, most=40)
            letters = [letter for letter in letters if net.far(letter[0], letter[2]) is not None]
            if trial % 2:
                letters = [letter for letter in letters if letter[0] == letters[0][0]] * 5
            if letters:
                with self.subTest(trial=trial):
                    low, high, plan = self.check_bounds(net, letters)
                    sooner += high < last_by_ways(net, letters)
                    same += low == high
        self.assertGreater(sooner, 5)
        self.assertGreater(same, 50)

    def test_answered_within_some_seconds(self):
        chance = random.Random(206)
        ring = [(one, other, 9, 1) for one, other in zip(HOUSES, HOUSES[1:] + HOUSES[:1])]
        for trial in range(12):
            roads = list(ring)
            while len(roads) < 40 and trial % 2:
                one, other = chance.sample(HOUSES, 2)
                roads.append((one, other, chance.choice([9, chance.randint(1, 9)]), 1))
            letters = []
            for number in range(40):
                house, goal = chance.sample(HOUSES[:chance.choice([2, 4, 12])], 2)
                letters.append((house, number % chance.choice([1, 31]), goal))
            net = Net(HOUSES, roads)
            began = time.monotonic()
            bounds(net, letters)
            self.assertLess(time.monotonic() - began, 10)
            self.check_bounds(net, letters)


if __name__ == "__main__":
    unittest.main()
