"""Points 2, 3, 14 and 15: letters run by a table of ways."""

import random
import unittest

from helper import RefusalCase, some_letters, some_net, some_ways
from postroad.errors import NoWay
from postroad.net import Net
from postroad.plans import arrivals, spots_at
from postroad.runs import left_out, run
from postroad.spots import AtHouse
from postroad.ways import Ways, shortest


class RunsCase(RefusalCase):
    def check_run(self, net, letters, plan, without=(), ways=None):
        table = shortest(net) if ways is None else ways
        told = run(net, letters, table)
        self.assertIs(type(told), list)
        self.assertEqual(told, plan)
        left = left_out(letters, table)
        self.assertIs(type(left), list)
        self.assertEqual(left, list(without))
        unhome = [number for number, turn in enumerate(arrivals(net, letters, told)) if turn is None]
        self.assertEqual(unhome, list(without))


class ShortRunsTest(RunsCase):
    def test_no_letters(self):
        self.check_run(Net([], []), [], [])
        self.check_run(Net(["a", "b"], [("a", "b", 1, 1)]), [], [])

    def test_a_net_without_roads(self):
        net = Net(["a", "b"], [])
        self.check_run(net, [], [])
        self.check_run(net, [("a", 3, "b"), ("b", 0, "a")], [], without=[0, 1])

    def test_one_letter_goes_at_its_turn(self):
        net = Net(["a", "b"], [("a", "b", 3, 1)])
        for turn in [0, 1, 7, 10 ** 9]:
            self.check_run(net, [("a", turn, "b")], [(turn, 0, (0,))])

    def test_one_letter_goes_on_at_the_turn_it_comes(self):
        net = Net(["a", "b", "c"], [("b", "c", 2, 1), ("a", "b", 3, 1)])
        self.check_run(net, [("a", 4, "c")], [(4, 1, (0,)), (7, 0, (0,))])

    def test_letters_whose_turns_come_later(self):
        net = Net(["a", "b"], [("a", "b", 1, 9)])
        letters = [("a", 30, "b"), ("a", 0, "b"), ("a", 5, "b"), ("a", 5, "b")]
        self.check_run(net, letters, [(0, 0, (1,)), (5, 0, (2, 3)), (30, 0, (0,))])

    def test_roads_of_one_turn_in_their_order(self):
        net = Net(["a", "b", "c"], [("b", "a", 1, 1), ("a", "c", 1, 1), ("a", "b", 1, 1)])
        letters = [("a", 2, "b"), ("a", 2, "c"), ("b", 2, "a")]
        self.check_run(net, letters, [(2, 0, (2,)), (2, 1, (1,)), (2, 2, (0,))])

    def test_alike_roads_are_not_both_taken(self):
        net = Net(["a", "b"], [("a", "b", 1, 1), ("a", "b", 1, 1)])
        self.check_run(net, [("a", 2, "b"), ("a", 2, "b")], [(2, 0, (0,)), (3, 0, (1,))])

    def test_a_table_told_otherwise(self):
        net = Net(["a", "b", "c"], [("a", "c", 1, 9), ("a", "b", 4, 9), ("b", "c", 4, 9)])
        ways = Ways(net)
        ways.set_way("a", "c", 1)
        ways.set_way("b", "c", 2)
        self.check_run(net, [("a", 0, "c")], [(0, 1, (0,)), (4, 2, (0,))], ways=ways)

    def test_one_house_and_several_goals(self):
        net = Net(["a", "b", "c"], [("a", "b", 1, 1), ("b", "c", 1, 1)])
        letters = [("a", 0, "c"), ("a", 0, "b"), ("a", 0, "c")]
        self.check_run(net, letters, [(0, 0, (0,)), (1, 0, (1,)), (1, 1, (0,)), (2, 0, (2,)), (3, 1, (2,))])


class RoomTest(RunsCase):
    def setUp(self):
        self.net = Net(["a", "b", "c"], [("a", "c", 1, 2), ("b", "a", 2, 9)])

    def test_lesser_numbers_first(self):
        letters = [("a", 4, "c")] * 5
        self.check_run(self.net, letters, [(4, 0, (0, 1)), (5, 0, (2, 3)), (6, 0, (4,))])

    def test_who_came_earlier_goes_first(self):
        letters = [("a", 5, "c"), ("a", 5, "c"), ("a", 4, "c"), ("a", 4, "c"), ("a", 4, "c"), ("a", 4, "c")]
        self.check_run(self.net, letters, [(4, 0, (2, 3)), (5, 0, (4, 5)), (6, 0, (0, 1))])

    def test_the_numbers_of_a_bag_rise(self):
        letters = [("a", 5, "c"), ("a", 4, "c"), ("a", 4, "c"), ("a", 4, "c")]
        self.check_run(self.net, letters, [(4, 0, (1, 2)), (5, 0, (0, 3))])

    def test_the_turn_of_coming_counts_not_its_own(self):
        letters = [("b", 0, "c"), ("b", 0, "c"), ("a", 1, "c"), ("a", 1, "c"), ("a", 1, "c"), ("a", 1, "c")]
        self.check_run(self.net, letters, [(0, 1, (0, 1)), (1, 0, (2, 3)), (2, 0, (4, 5)), (3, 0, (0, 1))])

    def test_of_those_that_came_at_one_turn_the_lesser_number(self):
        letters = [("a", 2, "c"), ("b", 0, "c"), ("a", 2, "c"), ("b", 0, "c")]
        self.check_run(self.net, letters, [(0, 1, (1, 3)), (2, 0, (0, 1)), (3, 0, (2, 3))])

    def test_all_fit(self):
        net = Net(["a", "c"], [("a", "c", 1, 10 ** 9)])
        self.check_run(net, [("a", 4, "c")] * 40, [(4, 0, tuple(range(40)))])

    def test_as_many_as_there_is_room(self):
        self.check_run(self.net, [("a", 4, "c")] * 2, [(4, 0, (0, 1))])

    def test_others_on_another_road_do_not_wait(self):
        net = Net(["a", "b", "c"], [("a", "c", 1, 1), ("a", "b", 1, 1)])
        letters = [("a", 0, "c"), ("a", 0, "c"), ("a", 1, "b"), ("a", 0, "c")]
        self.check_run(net, letters, [(0, 0, (0,)), (1, 0, (1,)), (1, 1, (2,)), (2, 0, (3,))])

    def test_forty_letters_one_by_one(self):
        houses = list("abcdefghijkl")
        net = Net(houses, [(one, other, 9, 1) for one, other in zip(houses, houses[1:])])
        letters = [("a", 0, "l")] * 40
        plan = run(net, letters, shortest(net))
        self.assertEqual(arrivals(net, letters, plan), [99 + number for number in range(40)])


class LeftOutTest(RunsCase):
    def setUp(self):
        roads = [("a", "b", 1, 1), ("b", "a", 1, 1), ("b", "c", 1, 1), ("c", "d", 1, 1)]
        self.net = Net(["a", "b", "c", "d"], roads)
        self.ways = Ways(self.net)

    def test_a_new_table_leaves_out_all(self):
        letters = [("a", 0, "b"), ("b", 0, "c")]
        self.check_run(self.net, letters, [], without=[0, 1], ways=self.ways)

    def test_without_a_way_at_the_first_house(self):
        self.ways.set_way("b", "c", 2)
        letters = [("a", 0, "c"), ("b", 3, "c"), ("a", 9, "c")]
        self.check_run(self.net, letters, [(3, 2, (1,))], without=[0, 2], ways=self.ways)

    def test_without_a_way_further_on_they_do_not_set_out(self):
        self.ways.set_way("a", "d", 0)
        self.ways.set_way("b", "d", 2)
        self.ways.set_way("c", "a", 3)
        letters = [("a", 0, "d"), ("b", 0, "d"), ("a", 0, "b")]
        self.check_run(self.net, letters, [], without=[0, 1, 2], ways=self.ways)

    def test_ways_that_lead_round(self):
        self.ways.set_way("a", "c", 0)
        self.ways.set_way("b", "c", 1)
        self.ways.set_way("a", "b", 0)
        letters = [("b", 0, "c"), ("a", 0, "c"), ("a", 0, "b")]
        self.check_run(self.net, letters, [(0, 0, (2,))], without=[0, 1], ways=self.ways)

    def test_they_take_no_room(self):
        self.ways.set_way("a", "d", 0)
        self.ways.set_way("a", "b", 0)
        letters = [("a", 0, "d"), ("a", 1, "b"), ("a", 0, "d"), ("a", 1, "b")]
        self.check_run(self.net, letters, [(1, 0, (1,)), (2, 0, (3,))], without=[0, 2], ways=self.ways)

    def test_it_ends_although_some_are_left(self):
        letters = [("c", 0, "a"), ("a", 1, "b"), ("d", 2, "a")]
        self.check_run(self.net, letters, [(1, 0, (1,))], without=[0, 2])

    def test_no_letters_none_left_out(self):
        self.assertEqual(left_out([], self.ways), [])

    def test_why_is_told_by_the_route(self):
        self.ways.set_way("a", "d", 0)
        error = self.check_refused(NoWay, self.ways.route, "a", "d")
        self.assertEqual((error.reason, error.seen), ("none", ["a", "b"]))


class OwnListsTest(RunsCase):
    def setUp(self):
        self.net = Net(["a", "b", "c"], [("a", "b", 1, 1), ("b", "c", 1, 1)])
        self.letters = [("a", 4, "c"), ("c", 4, "a"), ("b", 2, "c"), ("a", 4, "c")]
        self.ways = shortest(self.net)
        self.plan = [(2, 1, (2,)), (4, 0, (0,)), (5, 0, (3,)), (5, 1, (0,)), (6, 1, (3,))]

    def check_told(self):
        self.check_run(self.net, self.letters, self.plan, without=[1], ways=self.ways)

    def test_what_is_handed_in_stays_as_it_is(self):
        letters, pairs = list(self.letters), self.ways.pairs()
        self.check_told()
        self.assertEqual(self.letters, letters)
        self.assertEqual(self.ways.pairs(), pairs)
        self.assertEqual(self.net.houses(), ["a", "b", "c"])
        self.assertEqual(self.net.roads(), [("a", "b", 1, 1), ("b", "c", 1, 1)])

    def test_lists_told_are_the_askers_own(self):
        run(self.net, self.letters, self.ways).clear()
        left_out(self.letters, self.ways).append(0)
        run(self.net, [], self.ways).append(None)
        left_out([], self.ways).append(0)
        self.check_told()
        self.check_run(self.net, [], [], ways=self.ways)

    def test_lists_told_earlier_stay_as_they_are(self):
        plan = run(self.net, self.letters, self.ways)
        left = left_out(self.letters, self.ways)
        self.letters.clear()
        self.ways.drop_way("a", "c")
        run(self.net, self.letters, self.ways)
        self.assertEqual((plan, left), (self.plan, [1]))

    def test_ways_changed_later_count_from_then_on(self):
        self.check_told()
        self.ways.drop_way("b", "c")
        self.check_run(self.net, self.letters, [], without=[0, 1, 2, 3], ways=self.ways)


def run_by_the_words(net, letters, ways, last):
    """Turn by turn and road by road, each letter's house and coming kept apart."""
    lies = {number: (letter[0], letter[1]) for number, letter in enumerate(letters)}
    for number, letter in enumerate(letters):
        try:
            ways.route(letter[0], letter[2])
        except NoWay:
            del lies[number]
    plan = []
    for turn in range(min((letter[1] for letter in letters), default=0), last + 1):
        for road, (house, end, turns, room) in enumerate(net.roads()):
            waiting = [
                (came, number) for number, (where, came) in lies.items()
                if where == house and came <= turn and where != letters[number][2]
                and ways.way(where, letters[number][2]) == road
            ]
            bag = sorted(number for came, number in sorted(waiting)[:room])
            if bag:
                plan.append((turn, road, tuple(bag)))
            for number in bag:
                lies[number] = (end, turn + turns)
    return plan


def stays_by(net, letters, plan):
    """For each letter its stays: (house, since, the turn it left, the road by which it left)."""
    stays = []
    for number, (house, since, goal) in enumerate(letters):
        own = []
        for turn, road, numbers in plan:
            if number in numbers:
                own.append((house, since, turn, road))
                house, since = net.road(road)[1], turn + net.road(road)[2]
        stays.append(own)
    return stays


class ByChanceTest(RunsCase):
    def test_as_by_the_words(self):
        chance = random.Random(14)
        waits = 0
        for trial in range(250):
            net = some_net(chance)
            letters = some_letters(chance, net, most=20)
            for ways in [some_ways(chance, net), shortest(net)]:
                with self.subTest(trial=trial):
                    plan = run(net, letters, ways)
                    last = max([bag[0] for bag in plan] + [letter[1] for letter in letters], default=0)
                    self.assertEqual(plan, run_by_the_words(net, letters, ways, last + 10))
                    self.check_routes(net, letters, ways, plan)
                    waits += self.check_waits(net, letters, ways, plan)
                    self.check_spots(net, letters, plan)
        self.assertGreater(waits, 500)

    def check_routes(self, net, letters, ways, plan):
        left = left_out(letters, ways)
        home = arrivals(net, letters, plan)
        for number, own in enumerate(stays_by(net, letters, plan)):
            if number in left:
                self.assertEqual(own, [])
                self.check_refused(NoWay, ways.route, letters[number][0], letters[number][2])
            else:
                self.assertEqual([stay[3] for stay in own], ways.route(letters[number][0], letters[number][2]))
            self.assertEqual(home[number] is None, number in left)

    def check_waits(self, net, letters, ways, plan):
        """Each turn of waiting has a full bag of letters that came no later. Tells how many there were."""
        bags = {bag[:2]: bag[2] for bag in plan}
        came = {}
        for number, own in enumerate(stays_by(net, letters, plan)):
            for house, since, turn, road in own:
                came[(number, turn)] = since
        waits = 0
        for number, own in enumerate(stays_by(net, letters, plan)):
            for house, since, left, road in own:
                for turn in range(since, left):
                    bag = bags.get((turn, road), ())
                    self.assertEqual(len(bag), net.road(road)[3])
                    for other in bag:
                        self.assertLess((came[(other, turn)], other), (since, number))
                    waits += 1
        return waits

    def check_spots(self, net, letters, plan):
        if not letters:
            return
        stays = stays_by(net, letters, plan)
        for turn in range(min(letter[1] for letter in letters), max(letter[1] for letter in letters) + 8):
            for number, spot in enumerate(spots_at(net, letters, plan, turn)):
                lying = [stay[:2] for stay in stays[number] if stay[1] <= turn < stay[2]]
                if stays[number]:
                    self.assertEqual(lying, [(spot.at, spot.since)] if isinstance(spot, AtHouse) else [])

    def test_the_bound_of_one_goal(self):
        chance = random.Random(15)
        met = 0
        for trial in range(400):
            net = some_net(chance, most_roads=20, most_room=chance.choice([1, 1, 3]))
            ways = shortest(net)
            goal = chance.choice(net.houses())
            letters = some_letters(chance, net, most=20, goal=goal)
            letters = [letter for letter in letters if net.far(letter[0], goal) is not None]
            if letters:
                with self.subTest(trial=trial):
                    home = max(arrivals(net, letters, run(net, letters, ways)))
                    longest = max(net.far(letter[0], goal) for letter in letters)
                    bound = max(letter[1] for letter in letters) + longest + len(letters) - 1
                    self.assertLessEqual(home, bound)
                    met += home == bound
        self.assertGreater(met, 10)

    def test_the_bound_is_met_by_letters_of_one_house(self):
        net = Net(["a", "b", "c"], [("a", "b", 4, 1), ("b", "c", 9, 1)])
        for count in [1, 2, 40]:
            letters = [("a", 7, "c")] * count
            home = arrivals(net, letters, run(net, letters, shortest(net)))
            self.assertEqual(max(home), 7 + 13 + count - 1)


if __name__ == "__main__":
    unittest.main()
