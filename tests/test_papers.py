"""Points 2, 16 and 17: papers and their two sums."""

import random
import unittest

from helper import every_plan, small_case, some_letters, some_net, some_paper, some_ways, sums_by_the_words
from postroad.net import Net
from postroad.papers import paper_sum
from postroad.plans import arrivals
from postroad.runs import run
from postroad.ways import shortest


class PapersCase(unittest.TestCase):
    def check_sums(self, net, letters, paper, turn, out, carried):
        told = paper_sum(net, letters, paper, turn)
        self.assertIs(type(told), tuple)
        self.assertEqual([type(number) for number in told], [int, int])
        self.assertEqual(told, (out, carried))
        self.assertEqual(sums_by_the_words(net, letters, paper, turn), (out, carried))


class OutTest(PapersCase):
    def setUp(self):
        self.net = Net(["a", "b", "z"], [])

    def check_out(self, letters, from_on, turn, out):
        self.check_sums(self.net, letters, {"a": from_on, "b": None, "z": None}, turn, out, 0)

    def test_no_letters(self):
        self.check_out([], None, 9, 0)
        self.check_out([], 0, 9, 0)
        self.check_sums(Net([], []), [], {}, 0, 0, 0)

    def test_in_from_the_very_turn_that_is_told(self):
        for own, out in [(4, 1), (5, 0), (6, 0)]:
            self.check_out([("a", own, "z")], 5, 20, out)

    def test_in_from_turn_0_on(self):
        self.check_out([("a", 0, "z"), ("a", 1, "z")], 0, 20, 0)

    def test_a_house_with_none_is_out_at_every_turn(self):
        self.check_out([("a", 0, "z"), ("a", 7, "z"), ("a", 20, "z")], None, 20, 3)

    def test_the_letters_own_turn_against_the_turn_asked(self):
        for own, out in [(19, 1), (20, 1), (21, 0)]:
            self.check_out([("a", own, "z")], None, 20, out)
            self.check_out([("b", own, "z")], 0, 20, out)
            self.check_out([("a", own, "z")], 25, 20, out)
            self.check_out([("a", own, "z")], 10, 20, 0)

    def test_a_house_that_comes_in_between_the_letters_turns(self):
        letters = [("a", 9, "z"), ("a", 3, "z"), ("a", 6, "z"), ("a", 5, "z"), ("a", 4, "z"), ("a", 12, "z")]
        self.check_out(letters, 5, 11, 2)
        self.check_out(letters, 10, 11, 5)
        self.check_out(letters, 10, 30, 5)
        self.check_out(letters, 13, 30, 6)

    def test_each_by_its_own_house(self):
        letters = [("a", 5, "z"), ("b", 5, "z"), ("b", 5, "z"), ("a", 2, "z")]
        self.check_out(letters, 3, 9, 3)

    def test_alike_letters_count_each(self):
        self.check_out([("a", 5, "z")] * 40, 6, 9, 40)

    def test_turn_0(self):
        self.check_out([("a", 0, "z"), ("a", 1, "z")], None, 0, 1)
        self.check_out([("a", 0, "z"), ("a", 1, "z")], 0, 0, 0)
        self.check_out([("a", 0, "z"), ("a", 1, "z")], 1, 0, 1)

    def test_near_the_greatest_turn(self):
        letters = [("a", 10 ** 9, "z"), ("a", 10 ** 9 - 1, "z"), ("b", 10 ** 9 - 30, "z")]
        self.check_out(letters, 10 ** 9, 10 ** 9 + 300, 2)
        self.check_out(letters, 10 ** 9 + 100, 10 ** 9 - 1, 2)


class CarriedTest(PapersCase):
    def check_road(self, turns, room, first, other, turn, carried):
        net = Net(["a", "b", "z"], [("a", "b", turns, room)])
        self.check_sums(net, [], {"a": first, "b": other, "z": None}, turn, 0, carried)

    def test_its_first_house_is_never_in(self):
        self.check_road(1, 5, None, None, 20, 0)
        self.check_road(1, 5, None, 3, 20, 0)

    def test_its_other_house_is_never_in(self):
        # Leaves from 10 on, and is there at 20 at last: 10 to 17.
        self.check_road(3, 5, 10, None, 20, 8 * 5)

    def test_there_at_the_turn_itself_and_one_turn_later(self):
        self.check_road(3, 5, 17, None, 20, 5)
        self.check_road(3, 5, 18, None, 20, 0)
        self.check_road(3, 5, 17, None, 19, 0)
        self.check_road(9, 5, 11, None, 20, 5)
        self.check_road(9, 5, 12, None, 20, 0)

    def test_its_other_house_comes_in_later(self):
        # At b ahead of turn 15, so leaves from 10 to 11.
        self.check_road(3, 5, 10, 15, 20, 2 * 5)
        self.check_road(3, 5, 10, 14, 20, 5)
        self.check_road(3, 5, 10, 13, 20, 0)
        self.check_road(3, 5, 10, 20, 20, 7 * 5)
        self.check_road(3, 5, 10, 21, 20, 8 * 5)
        self.check_road(3, 5, 10, 99, 20, 8 * 5)

    def test_its_other_house_comes_in_at_that_very_turn(self):
        for turns in [1, 9]:
            self.check_road(turns, 5, 10, 10, 40, 0)

    def test_its_other_house_comes_in_as_the_first_bag_is_there(self):
        for turns in [1, 4, 9]:
            self.check_road(turns, 5, 10, 10 + turns, 40, 0)
            self.check_road(turns, 5, 10, 11 + turns, 40, 5)

    def test_its_other_house_comes_in_earlier(self):
        self.check_road(1, 5, 10, 9, 20, 0)
        self.check_road(1, 5, 10, 0, 20, 0)
        self.check_road(9, 5, 300, 0, 320, 0)

    def test_turns_of_1_and_of_9(self):
        self.check_road(1, 1, 10, None, 20, 10)
        self.check_road(9, 1, 10, None, 20, 2)
        self.check_road(1, 1, 0, None, 1, 1)
        self.check_road(9, 1, 0, None, 9, 1)
        self.check_road(9, 1, 0, None, 8, 0)

    def test_the_room_is_counted_for_each_turn(self):
        self.check_road(2, 1, 10, None, 20, 9)
        self.check_road(2, 7, 10, None, 20, 63)
        self.check_road(2, 10 ** 9, 10, None, 20, 9 * 10 ** 9)

    def test_a_turn_of_the_paper_behind_the_turn_asked(self):
        self.check_road(1, 5, 21, None, 20, 0)
        self.check_road(1, 5, 20, None, 20, 0)
        self.check_road(1, 5, 19, None, 20, 5)
        self.check_road(1, 5, 400, 200, 20, 0)
        self.check_road(1, 5, 0, 400, 20, 100)

    def test_a_turn_of_the_paper_far_ahead(self):
        self.check_road(4, 2, 0, None, 400, 2 * 397)
        self.check_road(4, 2, 10 ** 9, None, 10 ** 9 + 400, 2 * 397)
        self.check_road(4, 2, 0, 390, 400, 2 * 386)
        self.check_road(4, 2, 2 * 10 ** 9 - 400, None, 2 * 10 ** 9, 2 * 397)

    def test_turn_0(self):
        self.check_road(1, 5, 0, None, 0, 0)

    def test_roads_alike_count_each(self):
        net = Net(["a", "b"], [("a", "b", 3, 5)] * 3 + [("a", "b", 3, 2)])
        self.check_sums(net, [], {"a": 10, "b": None}, 14, 0, 2 * 17)

    def test_both_directions_each_by_itself(self):
        net = Net(["a", "b"], [("a", "b", 1, 5), ("b", "a", 1, 100)])
        self.check_sums(net, [], {"a": 10, "b": None}, 14, 0, 20)
        self.check_sums(net, [], {"a": None, "b": 10}, 14, 0, 400)
        # Until b comes in, the bags from a are carried; a is in by then.
        self.check_sums(net, [], {"a": 10, "b": 13}, 14, 0, 10)

    def test_none_for_every_house(self):
        net = Net(["a", "b", "z"], [("a", "b", 1, 5), ("b", "z", 1, 5), ("z", "a", 1, 5)])
        letters = [("a", 3, "z"), ("b", 4, "z"), ("a", 10, "z"), ("a", 11, "z")]
        self.check_sums(net, letters, {"a": None, "b": None, "z": None}, 10, 3, 0)
        self.check_sums(net, [], {"a": None, "b": None, "z": None}, 10, 0, 0)

    def test_no_letters_and_carried_all_the_same(self):
        net = Net(["a", "b", "z"], [("a", "b", 1, 5), ("b", "z", 2, 3), ("a", "z", 9, 1)])
        self.check_sums(net, [], {"a": 0, "b": 4, "z": None}, 10, 0, 3 * 5 + 5 * 3 + 2)

    def test_letters_do_not_change_what_is_carried(self):
        net = Net(["a", "b", "z"], [("a", "b", 1, 5), ("b", "z", 2, 3), ("a", "z", 9, 1)])
        letters = [("a", 0, "z"), ("b", 3, "z"), ("b", 4, "z"), ("b", 2, "z")]
        self.check_sums(net, letters, {"a": 0, "b": 4, "z": None}, 10, 2, 3 * 5 + 5 * 3 + 2)

    def test_roads_out_of_the_goal_carry_nothing(self):
        net = Net(["a", "z"], [("z", "a", 1, 7)])
        self.check_sums(net, [("a", 3, "z")], {"a": None, "z": None}, 10, 1, 0)
        self.check_sums(net, [("a", 3, "z")], {"a": 3, "z": None}, 10, 0, 0)


class HandedInTest(PapersCase):
    def test_what_is_handed_in_stays_as_it_is(self):
        net = Net(["a", "b", "z"], [("a", "b", 1, 5), ("b", "z", 2, 3)])
        letters = [("a", 0, "z"), ("b", 3, "z")]
        paper = {"b": 4, "a": 0, "z": None}
        for turn in [0, 5, 10, 10]:
            paper_sum(net, letters, paper, turn)
        self.assertEqual(letters, [("a", 0, "z"), ("b", 3, "z")])
        self.assertEqual(list(paper.items()), [("b", 4), ("a", 0), ("z", None)])
        self.assertEqual(net.roads(), [("a", "b", 1, 5), ("b", "z", 2, 3)])
        self.assertEqual(net.houses(), ["a", "b", "z"])

    def test_what_is_changed_between_counts_from_then_on(self):
        net = Net(["a", "z"], [("a", "z", 1, 5)])
        letters = [("a", 0, "z")]
        paper = {"a": None, "z": None}
        self.check_sums(net, letters, paper, 4, 1, 0)
        paper["a"] = 2
        self.check_sums(net, letters, paper, 4, 1, 10)
        letters.append(("a", 1, "z"))
        self.check_sums(net, letters, paper, 4, 2, 10)
        paper["a"] = 0
        self.check_sums(net, letters, paper, 4, 0, 20)


class ByChanceTest(PapersCase):
    def test_as_by_the_words(self):
        chance = random.Random(16)
        sums = {}
        for trial in range(1500):
            net = some_net(chance, most_houses=5, most_roads=10)
            goal = chance.choice(net.houses())
            letters = some_letters(chance, net, most=10, goal=goal)
            turn = chance.choice(letters)[1] if letters else 0
            turn += chance.choice([0, 1, 4, 12, 300])
            paper = some_paper(chance, net, goal, turn)
            with self.subTest(trial=trial):
                out, carried = sums_by_the_words(net, letters, paper, turn)
                self.check_sums(net, letters, paper, turn, out, carried)
                sums[(out, carried)] = True
        self.assertGreater(len(sums), 300)


class NoPlanBringsMoreTest(unittest.TestCase):
    def check_bound(self, net, letters, paper, turn, home):
        """Tells whether just as many are home as the paper allows, and not none."""
        by_then = sum(came is not None and came <= turn for came in home)
        self.assertLessEqual(by_then, sum(paper_sum(net, letters, paper, turn)))
        return by_then == sum(paper_sum(net, letters, paper, turn)) > 0

    def test_by_every_plan(self):
        chance = random.Random(17)
        met = plans = 0
        for trial in range(60):
            net, letters = small_case(chance, 3)
            goal = letters[0][2]
            # Bags that leave behind turn 3 are there behind turn 4, so these
            # are all plans that matter for turns up to 4.
            homes = sorted({tuple(arrivals(net, letters, plan)) for plan in every_plan(net, letters, 3)}, key=str)
            plans += len(homes)
            for turn in range(5):
                for count in range(6):
                    paper = some_paper(chance, net, goal, turn)
                    for home in homes:
                        with self.subTest(trial=trial, turn=turn, paper=paper):
                            met += self.check_bound(net, letters, paper, turn, home)
        self.assertGreater(plans, 300)
        self.assertGreater(met, 500)

    def test_by_drawn_plans(self):
        chance = random.Random(18)
        met = 0
        for trial in range(400):
            net = some_net(chance, most_roads=20)
            goal = chance.choice(net.houses())
            letters = some_letters(chance, net, most=40, goal=goal)
            if letters:
                for ways in [shortest(net), some_ways(chance, net), some_ways(chance, net)]:
                    home = arrivals(net, letters, run(net, letters, ways))
                    for count in range(8):
                        turn = chance.choice(letters)[1] + chance.choice([0, 2, 5, 9, 20])
                        with self.subTest(trial=trial):
                            paper = some_paper(chance, net, goal, turn)
                            met += self.check_bound(net, letters, paper, turn, home)
        self.assertGreater(met, 100)


if __name__ == "__main__":
    unittest.main()
