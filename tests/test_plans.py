"""Points 2, 3, 8, 9 and 10: plans walked bag by bag, and where letters are by them."""

import copy
import itertools
import random
import unittest

from helper import RefusalCase, some_letters, some_net
from postroad.errors import BadBag
from postroad.net import Net
from postroad.plans import arrivals, spots_at
from postroad.spots import AtHome, AtHouse, NotYet, OnRoad

FAR_BEHIND = 2 * 10 ** 9
TURNS_ASKED = [0, 1, 5, 12, FAR_BEHIND]
NO_BAGS = [
    None, 0, 7, True, False, "", "bag", "3 0: 1", [], [9, 0, (2,)], [(9, 0, (2,))], ((9, 0, (2,)),), (),
    (9,), (9, 0), (9, (2,)), (9, 0, (2,), None), (9, 0, (2,), (2,)), (9, 0, 2, 3), (9, 0, 2), (9, 0, None),
    (9, 0, True), (9, 0, "2"), (9, 0, ""), (9, 0, [2]), (9, 0, []), (9, 0, ()),
    (True, 0, (2,)), (False, 0, (2,)), ("9", 0, (2,)), ("", 0, (2,)), (None, 0, (2,)), ((9,), 0, (2,)), ([9], 0, (2,)),
    (9, True, (2,)), (9, False, (2,)), (9, "0", (2,)), (9, None, (2,)), (9, (0,), (2,)), (9, [], (2,)),
    (9, 0, (True,)), (9, 0, (False,)), (9, 0, ("2",)), (9, 0, (None,)), (9, 0, ((2,),)), (9, 0, ([2],)),
    (9, 0, (2, True)), (9, 0, (False, 2)), (9, 0, (2, "3")), (9, 0, (2, None)), (9, 0, (2, ())), (9, 0, ([], 2)),
    (9, 0, (2, 3, True)), ((2,), 0, 9), (0, (2,), 9),
]


def shown(spot):
    if type(spot) is NotYet:
        return ("not yet",)
    if type(spot) is AtHouse:
        return ("at", spot.at, spot.since)
    if type(spot) is OnRoad:
        return ("on", spot.by, spot.due)
    if type(spot) is AtHome:
        return ("home", spot.since)
    return spot


class PlansCase(RefusalCase):
    def check_spots(self, plan, told):
        """told: for some turns, the spots of all letters."""
        for turn, spots in told.items():
            with self.subTest(turn=turn):
                self.assertEqual([shown(spot) for spot in spots_at(self.net, self.letters, plan, turn)], spots)

    def check_home(self, plan, turns):
        told = arrivals(self.net, self.letters, plan)
        self.assertIs(type(told), list)
        self.assertEqual(told, turns)

    def check_bad(self, plan, place, reason):
        errors = [self.check_refused(BadBag, arrivals, self.net, self.letters, plan)]
        for turn in TURNS_ASKED:
            errors.append(self.check_refused(BadBag, spots_at, self.net, self.letters, plan, turn))
        self.assertEqual({(error.place, error.reason) for error in errors}, {(place, reason)})


class SpotsTest(PlansCase):
    def setUp(self):
        self.net = Net(["a", "b", "c"], [("a", "b", 2, 9), ("b", "c", 3, 9), ("b", "a", 1, 9)])
        self.letters = [("a", 5, "c")]

    def test_from_not_yet_to_home(self):
        plan = [(7, 0, (0,)), (12, 1, (0,))]
        self.check_spots(plan, {
            0: [("not yet",)], 1: [("not yet",)], 4: [("not yet",)],
            5: [("at", "a", 5)], 6: [("at", "a", 5)],
            7: [("on", 0, 9)], 8: [("on", 0, 9)],
            9: [("at", "b", 9)], 10: [("at", "b", 9)], 11: [("at", "b", 9)],
            12: [("on", 1, 15)], 13: [("on", 1, 15)], 14: [("on", 1, 15)],
            15: [("home", 15)], 16: [("home", 15)], FAR_BEHIND: [("home", 15)],
        })
        self.check_home(plan, [15])

    def test_without_waiting(self):
        plan = [(5, 0, (0,)), (7, 1, (0,))]
        self.check_spots(plan, {
            4: [("not yet",)], 5: [("on", 0, 7)], 6: [("on", 0, 7)],
            7: [("on", 1, 10)], 9: [("on", 1, 10)], 10: [("home", 10)],
        })
        self.check_home(plan, [10])

    def test_stays_where_its_last_bag_came(self):
        plan = [(6, 0, (0,))]
        self.check_spots(plan, {6: [("on", 0, 8)], 8: [("at", "b", 8)], FAR_BEHIND: [("at", "b", 8)]})
        self.check_home(plan, [None])

    def test_back_in_its_first_house_since_it_came_back(self):
        plan = [(5, 0, (0,)), (8, 2, (0,))]
        self.check_spots(plan, {7: [("at", "b", 7)], 8: [("on", 2, 9)], 9: [("at", "a", 9)], 50: [("at", "a", 9)]})
        self.check_home(plan, [None])

    def test_through_its_first_house_a_second_time(self):
        plan = [(5, 0, (0,)), (7, 2, (0,)), (8, 0, (0,)), (10, 1, (0,))]
        self.check_spots(plan, {6: [("on", 0, 7)], 7: [("on", 2, 8)], 8: [("on", 0, 10)], 13: [("home", 13)]})
        self.check_home(plan, [13])

    def test_letters_side_by_side(self):
        self.letters = [("a", 5, "c"), ("a", 0, "b"), ("b", 9, "c"), ("b", 3, "a")]
        plan = [(4, 0, (1,)), (5, 0, (0,)), (9, 1, (0, 2)), (9, 2, (3,))]
        self.check_spots(plan, {
            0: [("not yet",), ("at", "a", 0), ("not yet",), ("not yet",)],
            3: [("not yet",), ("at", "a", 0), ("not yet",), ("at", "b", 3)],
            4: [("not yet",), ("on", 0, 6), ("not yet",), ("at", "b", 3)],
            6: [("on", 0, 7), ("home", 6), ("not yet",), ("at", "b", 3)],
            8: [("at", "b", 7), ("home", 6), ("not yet",), ("at", "b", 3)],
            9: [("on", 1, 12), ("home", 6), ("on", 1, 12), ("on", 2, 10)],
            10: [("on", 1, 12), ("home", 6), ("on", 1, 12), ("home", 10)],
            FAR_BEHIND: [("home", 12), ("home", 6), ("home", 12), ("home", 10)],
        })
        self.check_home(plan, [12, 6, 12, 10])

    def test_the_empty_plan(self):
        self.letters = [("a", 5, "c"), ("b", 0, "c")]
        self.check_spots([], {
            0: [("not yet",), ("at", "b", 0)], 4: [("not yet",), ("at", "b", 0)],
            5: [("at", "a", 5), ("at", "b", 0)], FAR_BEHIND: [("at", "a", 5), ("at", "b", 0)],
        })
        self.check_home([], [None, None])

    def test_no_letters(self):
        self.letters = []
        self.check_spots([], {0: [], FAR_BEHIND: []})
        self.check_home([], [])

    def test_a_net_without_roads(self):
        self.net = Net(["a", "c"], [])
        self.check_spots([], {4: [("not yet",)], 5: [("at", "a", 5)]})
        self.check_home([], [None])
        self.check_bad([(5, 0, (0,))], 0, "road")

    def test_turn_nought(self):
        self.letters = [("a", 0, "c"), ("a", 0, "b")]
        self.check_spots([(0, 0, (0,))], {0: [("on", 0, 2), ("at", "a", 0)], 2: [("at", "b", 2), ("at", "a", 0)]})

    def test_great_turns(self):
        self.letters = [("b", 10 ** 9, "c")]
        plan = [(FAR_BEHIND - 2, 1, (0,))]
        self.check_spots(plan, {FAR_BEHIND - 3: [("at", "b", 10 ** 9)], FAR_BEHIND: [("on", 1, FAR_BEHIND + 1)]})
        self.check_home(plan, [FAR_BEHIND + 1])

    def test_lines_of_spots_told(self):
        plan = [(7, 0, (0,)), (12, 1, (0,))]
        lines = [spots_at(self.net, self.letters, plan, turn)[0].line() for turn in [4, 5, 7, 9, 15]]
        self.assertEqual(lines, ["not yet", "at a since 5", "on 0 until 9", "at b since 9", "home since 15"])


class LeavingTest(PlansCase):
    def setUp(self):
        self.net = Net(["a", "b", "c"], [("a", "b", 2, 2), ("b", "c", 1, 1), ("a", "b", 2, 2), ("a", "c", 9, 1)])
        self.letters = [("a", 5, "c"), ("a", 5, "c"), ("a", 5, "c"), ("a", 5, "c")]

    def test_each_number_of_turns(self):
        for turns in range(1, 10):
            self.net = Net(["a", "c"], [("a", "c", turns, 9)])
            self.check_home([(6, 0, (0, 1, 2, 3))], [6 + turns] * 4)

    def test_at_its_own_turn_and_at_the_turn_it_came(self):
        self.check_home([(5, 0, (0,)), (7, 1, (0,))], [8, None, None, None])

    def test_bags_of_one_turn_on_several_roads(self):
        plan = [(5, 0, (0,)), (5, 2, (1,)), (5, 3, (3,))]
        self.check_home(plan, [None, None, None, 14])
        self.check_spots(plan, {5: [("on", 0, 7), ("on", 2, 7), ("at", "a", 5), ("on", 3, 14)]})

    def test_alike_roads_have_a_bag_each(self):
        plan = [(5, 0, (0, 3)), (5, 2, (1, 2))]
        self.check_spots(plan, {
            6: [("on", 0, 7), ("on", 2, 7), ("on", 2, 7), ("on", 0, 7)],
            7: [("at", "b", 7)] * 4,
        })

    def test_full_bags_turn_by_turn(self):
        plan = [(5, 0, (0, 1)), (6, 0, (2, 3)), (7, 1, (1,)), (8, 1, (2,)), (9, 1, (0,)), (10, 1, (3,))]
        self.check_home(plan, [10, 8, 9, 11])

    def test_as_many_letters_as_there_is_room(self):
        self.net = Net(["a", "c"], [("a", "c", 1, 10 ** 9)])
        self.letters = [("a", 5, "c")] * 40
        self.check_home([(5, 0, tuple(range(40)))], [6] * 40)

    def test_a_later_turn_on_a_road_of_lesser_number(self):
        self.check_home([(5, 3, (0,)), (6, 2, (1,)), (7, 0, (2,))], [14, None, None, None])


class RefusedTest(PlansCase):
    def setUp(self):
        # Letter 0 goes by the good bags; 2 and 3 lie at a from turn 2 on.
        roads = [("a", "b", 2, 2), ("b", "c", 1, 1), ("c", "a", 1, 3)]
        self.net = Net(["a", "b", "c"], roads)
        self.letters = [("a", 0, "c"), ("a", 6, "c"), ("a", 2, "c"), ("a", 2, "b")]
        self.good = [(0, 0, (0,)), (3, 0, (2, 3)), (3, 1, (0,))]

    def check_bad_at_each_place(self, bag, reason):
        """bag: of a turn of 4 or later, so that it comes behind each good one."""
        self.check_bad([bag], 0, reason)
        self.check_bad([bag, (9, 0, (1,))], 0, reason)
        self.check_bad(self.good[:1] + [bag], 1, reason)
        self.check_bad(self.good + [bag], 3, reason)
        self.check_bad(self.good + [bag, (9, 0, (1,))], 3, reason)

    def test_the_good_bags_are_taken(self):
        self.check_home(self.good, [4, None, None, 5])
        self.check_home(self.good + [(9, 0, (1,)), (11, 1, (1,))], [4, 12, None, 5])

    def test_no_bag(self):
        for place, thing in enumerate(NO_BAGS):
            with self.subTest(place=place):
                self.check_bad_at_each_place(thing, "bag")

    def test_each_mixture_in_a_bag(self):
        self.letters = [("a", 0, "b")] * 3
        odd = [True, None, "", "1", [], [0], (), (None,)]
        taken = 0
        for turn, road, number in itertools.product([0, 7] + odd, [0] + odd, [1, 2] + odd):
            bag = (turn, road, (0, number))
            if any(thing is other for thing in (turn, road, number) for other in odd):
                self.check_bad([bag], 0, "bag")
            else:
                self.check_home([bag], [turn + 2 if letter in (0, number) else None for letter in range(3)])
                taken += 1
        self.assertEqual(taken, 4)

    def test_things_deep_within_one_another(self):
        deep = []
        for step in range(20000):
            deep = [deep] if step % 2 else (deep,)
        for thing in [deep, (deep, 0, (2,)), (9, deep, (2,)), (9, 0, deep), (9, 0, (deep,)), (9, 0, (2, deep))]:
            self.check_bad(self.good + [thing], 3, "bag")

    def test_out_of_order(self):
        ahead = self.good[:2]
        for bag in [(2, 0, (1,)), (2, 1, (0,)), (2, 2, (1,)), (3, 0, (2,)), (0, 1, (0,)), (-1, 1, (0,))]:
            with self.subTest(bag=bag):
                self.check_bad(ahead + [bag], 2, "order")
                self.check_bad(ahead + [bag, (9, 0, (1,))], 2, "order")

    def test_roads_of_one_turn_in_their_order(self):
        self.letters = [("a", 0, "c"), ("b", 0, "c")]
        self.check_home([(4, 0, (0,)), (4, 1, (1,))], [None, 5])
        self.check_bad([(4, 1, (1,)), (4, 0, (0,))], 1, "order")

    def test_two_bags_of_one_road_and_turn(self):
        self.check_bad([(2, 0, (2,)), (2, 0, (3,))], 1, "order")
        self.check_bad([(2, 0, (2,)), (2, 0, (2,))], 1, "order")

    def test_no_such_road(self):
        for road in [-1, -2, -3, -4, 3, 4, 40, 10 ** 9, 10 ** 30, 10 ** 5000, -10 ** 5000]:
            self.check_bad_at_each_place((4, road, (2,)), "road")

    def test_no_room(self):
        self.letters = [("a", 0, "c"), ("a", 6, "c"), ("a", 2, "c"), ("a", 2, "b"), ("a", 3, "c")]
        self.check_bad_at_each_place((9, 0, (1, 2, 4)), "room")
        self.check_bad_at_each_place((9, 1, (1, 2)), "room")
        self.check_home([(9, 0, (1, 2))], [None] * 5)

    def test_alike_roads_have_their_own_rooms(self):
        self.net = Net(["a", "b"], [("a", "b", 1, 1), ("a", "b", 1, 2)])
        self.letters = [("a", 0, "b")] * 5
        self.check_home([(0, 0, (4,)), (0, 1, (0, 2)), (1, 0, (1,)), (1, 1, (3,))], [1, 2, 1, 2, 1])
        self.check_bad([(0, 0, (0, 1))], 0, "room")
        self.check_bad([(0, 0, (4,)), (0, 1, (0, 1, 2))], 1, "room")

    def test_no_such_letter(self):
        for number in [-1, -2, -4, -5, 4, 5, 40, 10 ** 9, 10 ** 5000, -10 ** 5000]:
            self.check_bad_at_each_place((9, 0, (number,)), "letter")
        for numbers in [(1, 4), (-1, 1), (-3, -2), (1, -1), (4, 1), (4, 5)]:
            with self.subTest(numbers=numbers):
                self.check_bad_at_each_place((9, 0, numbers), "letter")

    def test_numbers_that_do_not_rise(self):
        self.letters = [("a", 0, "c")] + [("a", 2, "b")] * 5
        self.net = Net(["a", "b", "c"], [("a", "b", 2, 4), ("b", "c", 1, 1)])
        for numbers in [(4, 4), (5, 4), (4, 5, 4), (4, 5, 5), (5, 4, 5), (4, 1, 5)]:
            with self.subTest(numbers=numbers):
                self.check_bad_at_each_place((9, 0, numbers), "letter")
        self.check_home([(9, 0, (2, 3, 4, 5))], [None, None, 11, 11, 11, 11])

    def test_without_letters_no_number_is_one(self):
        self.letters = []
        for number in [-1, 0, 1]:
            self.check_bad([(0, 0, (number,))], 0, "letter")

    def test_its_turn_has_not_come(self):
        for turn in [5, 4, 0, -1, -6, -10 ** 5000]:
            self.check_bad([(turn, 0, (1,))], 0, "there")
        self.check_bad(self.good + [(5, 0, (1,))], 3, "there")
        self.check_home(self.good + [(6, 0, (1,))], [4, None, None, 5])

    def test_on_a_road(self):
        for bag in [(3, 1, (2,)), (4, 0, (2,)), (4, 1, (2,)), (4, 2, (2,))]:
            with self.subTest(bag=bag):
                self.check_bad([(2, 0, (3,)), (3, 0, (2,)), bag], 2, "there")
        self.check_home([(2, 0, (3,)), (3, 0, (2,)), (5, 1, (2,))], [None, None, 6, 4])

    def test_on_two_roads_at_one_turn(self):
        self.net = Net(["a", "b", "c"], [("a", "b", 2, 2), ("a", "b", 2, 2), ("a", "c", 1, 1)])
        self.check_bad([(2, 0, (2,)), (2, 1, (2,))], 1, "there")
        self.check_bad([(2, 0, (3,)), (2, 1, (2,)), (2, 2, (2,))], 2, "there")

    def test_in_another_house(self):
        for bag in [(9, 1, (2,)), (9, 2, (2,)), (9, 2, (1, 2, 3))]:
            with self.subTest(bag=bag):
                self.check_bad([bag], 0, "there")
        for bag in [(9, 0, (2,)), (9, 2, (2,)), (9, 0, (1, 2))]:
            with self.subTest(bag=bag):
                self.check_bad(self.good + [bag], 3, "there")
        self.check_home(self.good + [(9, 1, (2,))], [4, None, 10, 5])

    def test_home(self):
        for bag in [(4, 2, (0,)), (5, 2, (0,)), (9, 2, (0,)), (5, 1, (3,)), (9, 1, (3,)), (9, 0, (3,)), (9, 0, (0,))]:
            with self.subTest(bag=bag):
                self.check_bad(self.good + [bag], 3, "there")

    def test_one_of_several_is_not_there(self):
        self.check_bad([(3, 0, (1, 2))], 0, "there")
        self.check_bad([(3, 0, (0, 1))], 0, "there")
        self.check_bad([(2, 0, (2,)), (6, 0, (1, 2))], 1, "there")
        self.check_bad([(2, 0, (2,)), (6, 0, (2, 3))], 1, "there")

    def test_of_two_words_the_first(self):
        # Behind the good bags, the last of which is (3, 1, (0,)).
        for reason, bags in {
            "bag": [
                (0, 0, ()), (9, 77, ()), (9, 0, (1, 2, True)), (9, 0, (99, None)), (3, 77, [0]), (9, 2, [1]),
                (True, 77, (99, 98, 97)),
            ],
            "order": [
                (2, 77, (1,)), (3, -1, (1,)), (2, 0, (1, 2, 3)), (3, 1, (0, 1)), (2, 0, (99,)), (2, 0, (3, 2)),
                (3, 1, (1,)), (2, 2, (1,)),
            ],
            "road": [(9, 77, (0, 1, 2, 3)), (9, 3, (99,)), (9, -1, (3, 2)), (9, 3, (0,)), (3, 3, (1,))],
            "room": [
                (9, 1, (99, 98)), (9, 1, (2, 2)), (9, 0, (3, 2, 1)), (9, 1, (-1, 2)), (9, 1, (0, 1)), (9, 0, (0, 1, 2)),
                (9, 0, (0, 0, 0)),
            ],
            "letter": [(9, 0, (0, 99)), (9, 0, (3, 0)), (9, 0, (0, 0)), (5, 0, (1, 4)), (9, 0, (-1, 0))],
        }.items():
            for bag in bags:
                with self.subTest(bag=bag):
                    self.check_bad(self.good + [bag], 3, reason)
                    self.check_bad(self.good + [bag, None], 3, reason)

    def test_of_two_words_the_first_in_the_first_bag(self):
        for bag, reason in [
            ((9, 77, ()), "bag"), ((-1, -1, (0, 1, 2, 3)), "road"), ((9, 1, (99, 98)), "room"),
            ((9, 1, (1, 1)), "room"), ((9, 2, (3, 2, 1, 0)), "room"), ((9, 2, (2, 2)), "letter"),
            ((-1, 0, (99,)), "letter"), ((-1, 0, (0,)), "there"),
        ]:
            with self.subTest(bag=bag):
                self.check_bad([bag], 0, reason)

    def test_of_two_bags_the_first(self):
        amiss = [
            (None, "bag"), ((4, 77, (2,)), "road"), ((4, 1, (0, 1)), "room"), ((4, 0, (99,)), "letter"),
            ((4, 2, (1,)), "there"),
        ]
        for (first, reason), (second, other) in itertools.product(amiss, repeat=2):
            with self.subTest(first=first, second=second):
                self.check_bad([first, second], 0, reason)
                self.check_bad(self.good + [first, second], 3, reason)
                self.check_bad(self.good + [first, (9, 0, (1,)), second], 3, reason)

    def test_a_wrong_bag_behind_turns_asked(self):
        self.check_bad(self.good + [(10 ** 9, 0, (0,))], 3, "there")
        self.check_bad(self.good + [(10 ** 9, 7, (0,))], 3, "road")


class OwnListsTest(PlansCase):
    def setUp(self):
        self.net = Net(["a", "b", "c"], [("a", "b", 2, 9), ("b", "c", 3, 9)])
        self.letters = [("a", 5, "c"), ("b", 5, "c")]
        self.plan = [(5, 0, (0,)), (7, 1, (0, 1))]

    def test_what_is_handed_in_stays_as_it_is(self):
        wrong = [None, [5, 0, [0]], (5, 0, [0]), (5, 0, (0, [])), (4, 0, (0,)), (9, 0, (1, 0))]
        for plan in [self.plan, [], *[self.plan + [thing] for thing in wrong]]:
            kept = copy.deepcopy((plan, self.letters))
            for asked in [arrivals, lambda *handed: spots_at(*handed, 6)]:
                try:
                    asked(self.net, self.letters, plan)
                except BadBag:
                    pass
                self.assertEqual((plan, self.letters), kept)
        self.assertEqual(self.net.houses(), ["a", "b", "c"])
        self.assertEqual(self.net.roads(), [("a", "b", 2, 9), ("b", "c", 3, 9)])

    def test_lists_told_are_the_askers_own(self):
        arrivals(self.net, self.letters, self.plan).clear()
        spots_at(self.net, self.letters, self.plan, 6).clear()
        arrivals(self.net, [], []).append(1)
        spots_at(self.net, [], [], 6).append(1)
        self.check_home(self.plan, [10, 10])
        self.check_spots(self.plan, {6: [("on", 0, 7), ("at", "b", 5)]})
        self.assertEqual(arrivals(self.net, [], []), [])
        self.assertEqual(spots_at(self.net, [], [], 6), [])

    def test_lists_told_earlier_stay_as_they_are(self):
        turns = arrivals(self.net, self.letters, self.plan)
        spots = spots_at(self.net, self.letters, self.plan, 6)
        self.plan.pop()
        self.letters.reverse()
        arrivals(self.net, self.letters, [])
        spots_at(self.net, self.letters, [], 9)
        self.assertEqual(turns, [10, 10])
        self.assertEqual([shown(spot) for spot in spots], [("on", 0, 7), ("at", "b", 5)])

    def test_spots_told_are_new_ones(self):
        spots_at(self.net, self.letters, self.plan, 6)[0].due = 99
        self.check_spots(self.plan, {6: [("on", 0, 7), ("at", "b", 5)]})


def seen_by_looking_back(net, letters, bags, number, turn):
    """A letter's spot, found from all bags of a faultless plan up to a turn."""
    house, own, goal = letters[number]
    if turn < own:
        return ("not yet",)
    gone = [bag for bag in bags if number in bag[2] and bag[0] <= turn]
    if not gone:
        return ("at", house, own)
    left, road, numbers = max(gone)
    due = left + net.road(road)[2]
    if due > turn:
        return ("on", road, due)
    return ("home", due) if net.road(road)[1] == goal else ("at", net.road(road)[1], due)


def reason_by_looking_back(net, letters, bags, bag):
    turn, road, numbers = bag
    if bags and not (turn > bags[-1][0] or turn == bags[-1][0] and road > bags[-1][1]):
        return "order"
    if road not in range(len(net.roads())):
        return "road"
    if len(numbers) > net.road(road)[3]:
        return "room"
    if list(numbers) != sorted(set(numbers)) or not set(numbers) <= set(range(len(letters))):
        return "letter"
    for number in numbers:
        if seen_by_looking_back(net, letters, bags, number, turn)[:2] != ("at", net.road(road)[0]):
            return "there"
    return None


def some_bag(chance, net, letters, bags, turn):
    """Mostly a good one: letters that lie where a road begins."""
    road = chance.randint(-1, len(net.roads())) if chance.random() < 0.05 else chance.randrange(len(net.roads()))
    house = net.road(road)[0] if road in range(len(net.roads())) else "a"
    lying = []
    for number in range(len(letters)):
        if seen_by_looking_back(net, letters, bags, number, turn)[:2] == ("at", house) or chance.random() < 0.01:
            lying.append(number)
    if chance.random() < 0.02:
        lying = [chance.randint(-1, len(letters)) for time in range(3)]
    return (turn, road, tuple(lying[:chance.randint(1, 3)]))


class ByChanceTest(PlansCase):
    def test_as_by_looking_back(self):
        chance = random.Random(9)
        ends = []
        for trial in range(300):
            self.net = some_net(chance)
            self.letters = some_letters(chance, self.net)
            if self.net.roads() and self.letters:
                with self.subTest(trial=trial):
                    ends.append(self.walk_by_chance(chance))
        self.assertEqual(set(ends), {None, "order", "road", "room", "letter", "there"})

    def walk_by_chance(self, chance):
        bags = []
        reason = None
        turn = min(letter[1] for letter in self.letters)
        for time in range(40):
            turn += chance.choice([0, 0, 0, 1, 1, 2, 5]) - (chance.random() < 0.02)
            bag = some_bag(chance, self.net, self.letters, bags, turn)
            if not bag[2]:
                continue
            reason = reason_by_looking_back(self.net, self.letters, bags, bag)
            if reason in ("order", "room") and chance.random() < 0.9:
                reason = None
                continue
            if reason is not None:
                self.check_bad(bags + [bag], len(bags), reason)
                break
            bags.append(bag)
        self.check_by_looking_back(bags, turn)
        return reason

    def check_by_looking_back(self, bags, last):
        numbers = range(len(self.letters))
        told = {}
        for turn in [0, *range(min(letter[1] for letter in self.letters), last + 12)]:
            told[turn] = [seen_by_looking_back(self.net, self.letters, bags, number, turn) for number in numbers]
        self.check_spots(bags, told)
        ends = [seen_by_looking_back(self.net, self.letters, bags, number, 3 * 10 ** 9) for number in numbers]
        self.check_home(bags, [end[1] if end[0] == "home" else None for end in ends])


if __name__ == "__main__":
    unittest.main()
