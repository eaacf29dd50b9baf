"""Points 2, 3 and 19: the least turn by which all letters of one goal can be home."""

import random
import time
import unittest

from helper import PaperCase, most_by_search, small_case, some_letters, some_net, sums_by_the_words
from postroad.errors import CutOff, ManyGoals, NoLetter
from postroad.flows import most
from postroad.least import least
from postroad.net import Net
from postroad.papers import paper_sum
from postroad.plans import arrivals
from postroad.runs import run
from postroad.ways import shortest

HOUSES = list("abcdefghijkl")


class LeastCase(PaperCase):
    def check_least(self, net, letters, turn=None):
        """The plan shows that all can be home by the turn, the paper that not before. Tells what was told."""
        told = least(net, letters)
        self.assertIs(type(told), tuple)
        self.assertEqual([type(thing) for thing in told], [int, list, dict])
        if turn is not None:
            self.assertEqual(told[0], turn)
        home = arrivals(net, letters, told[1])
        self.assertNotIn(None, home)
        self.assertLessEqual(max(home), told[0])
        self.check_paper(net, letters, told[0], told[2])
        self.assertEqual(most(net, letters, told[0])[0], len(letters))
        self.assertLess(most(net, letters, told[0] - 1)[0], len(letters))
        return told

    def check_paper(self, net, letters, turn, paper):
        self.check_paper_turns(net, paper, turn)
        self.assertIsNone(paper[letters[0][2]])
        self.assertLess(sum(paper_sum(net, letters, paper, turn - 1)), len(letters))
        self.assertLess(sum(sums_by_the_words(net, letters, paper, turn - 1)), len(letters))

    def check_cut_off(self, net, letters, number, seen):
        self.check_cut_off_by(least, net, letters, number, seen)


class OneHouseTest(LeastCase):
    def test_one_letter_alone(self):
        for turns in [1, 5, 9]:
            net = Net(["a", "b"], [("a", "b", turns, 1)])
            for own in [0, 7, 10 ** 9]:
                told = self.check_least(net, [("a", own, "b")], own + turns)
                self.assertEqual(told[1], [(own, 0, (0,))])

    def test_one_letter_by_several_roads(self):
        net = Net(["a", "b", "c"], [("a", "c", 9, 1), ("a", "b", 3, 1), ("b", "c", 4, 1)])
        told = self.check_least(net, [("a", 2, "c")], 9)
        self.assertEqual(told[1], [(2, 1, (0,)), (5, 2, (0,))])

    def test_many_letters_on_one_road_with_room_for_one(self):
        for turns in [1, 9]:
            net = Net(["a", "b"], [("a", "b", turns, 1)])
            for count in [1, 2, 3, 17, 39, 40]:
                self.check_least(net, [("a", 5, "b")] * count, 5 + turns + count - 1)

    def test_many_letters_on_a_road_with_more_room(self):
        letters = [("a", 5, "b")] * 40
        for room, turn in [(2, 27), (3, 21), (39, 9), (40, 8), (41, 8), (10 ** 9, 8)]:
            self.check_least(Net(["a", "b"], [("a", "b", 3, room)]), letters, turn)

    def test_roads_alike(self):
        net = Net(["a", "b"], [("a", "b", 2, 1)] * 3)
        for count, turn in [(1, 2), (3, 2), (4, 3), (6, 3), (7, 4), (40, 15)]:
            self.check_least(net, [("a", 0, "b")] * count, turn)

    def test_the_slow_road_too_where_it_helps(self):
        net = Net(["a", "b"], [("a", "b", 1, 1), ("a", "b", 4, 1)])
        for count, turn in [(1, 1), (2, 2), (3, 3), (4, 4), (5, 4), (6, 5), (7, 5), (8, 6), (40, 22)]:
            self.check_least(net, [("a", 0, "b")] * count, turn)

    def test_letters_of_several_turns(self):
        net = Net(["a", "b"], [("a", "b", 2, 1)])
        self.check_least(net, [("a", 0, "b"), ("a", 30, "b")], 32)
        self.check_least(net, [("a", 30, "b"), ("a", 0, "b"), ("a", 30, "b")], 33)
        self.check_least(net, [("a", 1, "b"), ("a", 0, "b"), ("a", 0, "b")], 4)
        self.check_least(net, [("a", 3, "b")] + [("a", 0, "b")] * 3, 5)
        self.check_least(net, [("a", 3, "b")] + [("a", 0, "b")] * 4, 6)

    def test_a_chain_of_all_houses(self):
        net = Net(HOUSES, [(one, other, 9, 1) for one, other in zip(HOUSES, HOUSES[1:])])
        for first in [0, 10 ** 9]:
            self.check_least(net, [("a", first, "l")], first + 99)
            self.check_least(net, [("a", first, "l")] * 40, first + 99 + 39)


class SeveralHousesTest(LeastCase):
    def test_each_by_its_own_road(self):
        net = Net(["a", "b", "z"], [("a", "z", 3, 1), ("b", "z", 5, 1)])
        self.check_least(net, [("a", 0, "z"), ("b", 0, "z")], 5)
        self.check_least(net, [("a", 0, "z")] * 3 + [("b", 0, "z")], 5)
        self.check_least(net, [("a", 0, "z")] * 4 + [("b", 0, "z")], 6)
        self.check_least(net, [("b", 0, "z"), ("a", 9, "z")], 12)

    def test_the_far_one_counts_not_the_late_one(self):
        net = Net(["a", "b", "z"], [("a", "z", 9, 1), ("b", "z", 1, 1)])
        self.check_least(net, [("a", 4, "z"), ("b", 11, "z")], 13)
        self.check_least(net, [("a", 4, "z"), ("b", 12, "z")], 13)
        self.check_least(net, [("a", 4, "z"), ("b", 13, "z")], 14)

    def test_letters_that_join(self):
        net = Net(["a", "b", "m", "z"], [("a", "m", 1, 5), ("b", "m", 3, 5), ("m", "z", 1, 1)])
        self.check_least(net, [("a", 0, "z")] * 2 + [("b", 0, "z")], 4)
        self.check_least(net, [("a", 0, "z")] * 3 + [("b", 0, "z")] * 2, 6)

    def test_one_has_to_take_another_road(self):
        roads = [("a", "m", 1, 1), ("m", "z", 1, 1), ("a", "n", 1, 1), ("n", "p", 1, 1), ("p", "z", 1, 1)]
        net = Net(["a", "m", "n", "p", "z"], roads)
        self.check_least(net, [("a", 0, "z"), ("m", 1, "z"), ("m", 1, "z")], 3)
        self.check_least(net, [("a", 0, "z"), ("m", 1, "z"), ("m", 1, "z"), ("m", 1, "z")], 4)

    def test_the_goals_own_roads_lead_on(self):
        net = Net(["a", "z", "b"], [("a", "z", 1, 1), ("z", "b", 1, 9), ("b", "a", 1, 9), ("b", "z", 4, 1)])
        self.check_least(net, [("a", 0, "z"), ("a", 0, "z"), ("b", 0, "z"), ("b", 0, "z")], 4)

    def test_letters_near_the_greatest_turn(self):
        net = Net(["a", "b", "z"], [("a", "z", 3, 1), ("b", "a", 5, 1)])
        letters = [("a", 10 ** 9, "z"), ("b", 10 ** 9 - 30, "z"), ("b", 10 ** 9, "z"), ("b", 10 ** 9, "z")]
        self.check_least(net, letters, 10 ** 9 + 9)

    def test_houses_that_cannot_be_come_to_do_not_matter(self):
        net = Net(["x", "a", "b", "y"], [("a", "b", 2, 1), ("x", "y", 1, 1), ("y", "a", 1, 1), ("a", "x", 1, 1)])
        self.check_least(net, [("a", 0, "b"), ("a", 0, "b")], 3)


class RefusedTest(LeastCase):
    def setUp(self):
        self.net = Net(["a", "b", "c", "d"], [("a", "b", 1, 1), ("b", "c", 1, 1)])

    def test_no_letters(self):
        for net in [Net([], []), Net(["a"], []), self.net]:
            self.assertIsNone(self.check_refused(NoLetter, least, net, []).number)

    def test_letters_of_several_goals(self):
        for letters in [
            [("a", 0, "b"), ("a", 0, "c")],
            [("a", 0, "b"), ("a", 0, "b"), ("b", 0, "c")],
        ]:
            self.check_refused(ManyGoals, least, self.net, letters)

    def test_several_goals_also_where_one_is_cut_off(self):
        for letters in [
            [("a", 0, "d"), ("a", 0, "c")],
            [("a", 0, "c"), ("b", 0, "a")],
            [("a", 0, "d"), ("b", 0, "a")],
        ]:
            self.check_refused(ManyGoals, least, self.net, letters)

    def test_cut_off(self):
        self.check_cut_off(self.net, [("a", 0, "d")], 0, ["a", "b", "c"])
        self.check_cut_off(self.net, [("b", 0, "d")], 0, ["b", "c"])
        self.check_cut_off(self.net, [("c", 0, "d")], 0, ["c"])
        self.check_cut_off(self.net, [("d", 0, "a")], 0, ["d"])
        self.check_cut_off(self.net, [("c", 0, "a")], 0, ["c"])

    def test_the_first_letter_that_is_cut_off(self):
        letters = [("a", 9, "c"), ("b", 9, "c"), ("d", 30, "c"), ("a", 9, "c"), ("d", 3, "c")]
        self.check_cut_off(self.net, letters, 2, ["d"])
        self.check_cut_off(self.net, letters[3:], 1, ["d"])
        self.check_least(self.net, letters[:2])
        self.check_cut_off(self.net, [("b", 0, "a"), ("d", 0, "a")], 0, ["b", "c"])

    def test_a_net_without_roads(self):
        self.check_cut_off(Net(["a", "b"], []), [("b", 0, "a")], 0, ["b"])

    def test_seen_in_the_nets_order(self):
        roads = [("d", "c", 1, 1), ("c", "a", 1, 1), ("a", "e", 1, 1), ("e", "d", 1, 1)]
        for houses in [["a", "b", "c", "d", "e"], ["e", "d", "c", "b", "a"], ["c", "e", "b", "a", "d"]]:
            seen = [house for house in houses if house != "b"]
            self.check_cut_off(Net(houses, roads), [("d", 0, "b")], 0, seen)
            self.check_cut_off(Net(houses, roads), [("a", 0, "b")], 0, seen)

    def test_the_goals_own_roads_lead_back(self):
        net = Net(["z", "x", "a", "b"], [("z", "a", 1, 5), ("b", "a", 1, 5), ("a", "b", 1, 5), ("z", "x", 1, 5)])
        self.check_cut_off(net, [("b", 0, "z")], 0, ["a", "b"])
        self.check_cut_off(net, [("x", 0, "z")], 0, ["x"])
        self.check_cut_off(net, [("x", 0, "a")], 0, ["x"])

    def test_seen_is_the_askers_own(self):
        self.check_refused(CutOff, least, self.net, [("a", 0, "d")]).seen.clear()
        self.check_cut_off(self.net, [("a", 0, "d")], 0, ["a", "b", "c"])
        self.assertEqual(self.net.houses(), ["a", "b", "c", "d"])


class OwnListsTest(LeastCase):
    def setUp(self):
        self.net = Net(["a", "b", "z"], [("a", "b", 1, 2), ("b", "z", 1, 1)])
        self.letters = [("a", 0, "z"), ("a", 0, "z"), ("b", 0, "z"), ("b", 0, "z")]

    def test_what_is_handed_in_stays_as_it_is(self):
        letters = list(self.letters)
        self.check_least(self.net, self.letters, 4)
        self.assertEqual(self.letters, letters)
        self.assertEqual(self.net.houses(), ["a", "b", "z"])
        self.assertEqual(self.net.roads(), [("a", "b", 1, 2), ("b", "z", 1, 1)])

    def test_what_is_told_is_the_askers_own(self):
        turn, plan, paper = least(self.net, self.letters)
        kept = (turn, list(plan), dict(paper))
        plan.append((99, 0, (0,)))
        paper.clear()
        paper["a"] = 99
        self.assertEqual(self.check_least(self.net, self.letters), kept)

    def test_what_was_told_earlier_stays_as_it_is(self):
        turn, plan, paper = least(self.net, self.letters)
        kept = (turn, list(plan), dict(paper))
        self.letters[:] = [("a", 7, "z")]
        self.check_least(self.net, self.letters, 9)
        self.assertEqual((turn, plan, paper), kept)

    def test_the_same_is_told_each_time(self):
        told = least(self.net, self.letters)
        self.assertEqual(least(Net(self.net.houses(), self.net.roads()), list(self.letters)), told)


class ByChanceTest(LeastCase):
    def test_by_a_search_of_all_plans(self):
        chance = random.Random(19)
        turns = {}
        for trial in range(250):
            net, letters = small_case(chance, 4, most_turns=3)
            if all(net.far(letter[0], letter[2]) is not None for letter in letters):
                with self.subTest(trial=trial):
                    turn = self.check_least(net, letters)[0]
                    self.assertEqual(most_by_search(net, letters, turn), len(letters))
                    self.assertLess(most_by_search(net, letters, turn - 1), len(letters))
                    turns[turn] = True
        self.assertGreater(len(turns), 7)

    def test_plans_and_papers_show_it(self):
        chance = random.Random(20)
        asked = sooner = 0
        for trial in range(150):
            net = some_net(chance, most_houses=12, most_roads=40, most_room=chance.choice([1, 1, 3, 10 ** 9]))
            goal = chance.choice(net.houses())
            letters = some_letters(chance, net, most=40, goal=goal)
            letters = [letter for letter in letters if net.far(letter[0], goal) is not None]
            if trial % 2:
                letters = letters[:1] * len(letters)
            if letters:
                with self.subTest(trial=trial):
                    turn = self.check_least(net, letters)[0]
                    by_ways = max(arrivals(net, letters, run(net, letters, shortest(net))))
                    self.assertLessEqual(turn, by_ways)
                    self.assertGreaterEqual(turn, max(letter[1] + net.far(letter[0], goal) for letter in letters))
                    sooner += turn < by_ways
                    asked += 1
        self.assertGreater(asked, 80)
        self.assertGreater(sooner, 10)

    def test_cut_off_by_the_words(self):
        chance = random.Random(21)
        refused = 0
        for trial in range(200):
            net = some_net(chance, most_roads=8)
            goal = chance.choice(net.houses())
            letters = some_letters(chance, net, most=6, goal=goal)
            cut = [number for number, letter in enumerate(letters) if net.far(letter[0], goal) is None]
            if cut:
                house = letters[cut[0]][0]
                seen = [other for other in net.houses() if net.far(house, other) is not None]
                self.check_cut_off(net, letters, cut[0], seen)
                refused += 1
        self.assertGreater(refused, 50)

    def test_answered_within_some_seconds(self):
        chance = random.Random(22)
        for trial in range(5):
            roads = [(one, other, 9, 1) for one, other in zip(HOUSES[1:], HOUSES)]
            for number in range(29):
                one, other = chance.sample(HOUSES, 2)
                roads.append((one, other, chance.randint(1, 9), 1))
            letters = [(chance.choice(HOUSES[1:]), number % 31, "a") for number in range(40)]
            began = time.monotonic()
            least(Net(HOUSES, roads), letters)
            self.assertLess(time.monotonic() - began, 10)

    def test_somewhat_beyond_the_bounds(self):
        net = Net(["a", "b"], [("a", "b", 4, 1)])
        self.check_least(net, [("a", 10 ** 9 + 50, "b")] * 50 + [("a", 10 ** 9, "b")], 10 ** 9 + 50 + 4 + 49)


if __name__ == "__main__":
    unittest.main()
