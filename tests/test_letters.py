"""Points 2 and 7: what letters are."""

import copy
import itertools
import unittest

from postroad.errors import NoLetter, RoadError
from postroad.letters import letters_of
from postroad.net import Net

GOOD = ("a", 5, "b")
NO_LETTERS = [
    None, 0, 1, True, False, "", "a", "abc", [], ["a", 5, "b"], [GOOD], (), ("a",), ("a", 5), ("a", "b"),
    ("a", 5, "b", 1), ("a", 5, "b", None), (GOOD,), ("a", "b", 5), (5, "a", "b"),
    ("d", 5, "b"), ("a", 5, "d"), ("", 5, "b"), ("a", 5, ""), ("A", 5, "b"), ("a", 5, "B"), ("a ", 5, "b"),
    ("a\n", 5, "b"), ("a", 5, "b\n"), ("ab", 5, "c"),
    (["a"], 5, "b"), ("a", 5, ["b"]), ([], 5, []), (("a",), 5, "b"), ("a", 5, ("b",)), (None, 5, "b"),
    ("a", 5, None), (0, 5, "b"), ("a", 5, 1), (True, 5, "b"), ("a", 5, False), (["a"], 5, ["a"]),
    ("a", 5, "a"), ("b", 5, "b"),
    ("a", -1, "b"), ("a", 10 ** 9 + 1, "b"), ("a", 10 ** 5000, "b"), ("a", True, "b"), ("a", False, "b"),
    ("a", None, "b"), ("a", "5", "b"), ("a", "", "b"), ("a", [], "b"), ("a", [5], "b"), ("a", (5,), "b"),
]


class LettersCase(unittest.TestCase):
    def setUp(self):
        self.net = Net(["a", "b", "c"], [("a", "b", 1, 1)])

    def check_taken(self, some):
        told = letters_of(self.net, some)
        self.assertIs(type(told), list)
        self.assertEqual(told, some)

    def check_refused(self, some, number):
        with self.assertRaises(RoadError) as caught:
            letters_of(self.net, some)
        self.assertIs(type(caught.exception), NoLetter)
        self.assertEqual(caught.exception.number, number)
        self.assertIsNot(caught.exception.number, False)


class TakenTest(LettersCase):
    def test_no_letters(self):
        self.check_taken([])

    def test_one_letter(self):
        self.check_taken([GOOD])

    def test_letters_keep_their_order(self):
        self.check_taken([("c", 9, "a"), ("a", 3, "b"), ("b", 7, "c"), ("a", 3, "c")])

    def test_alike_letters(self):
        self.check_taken([GOOD, GOOD])

    def test_forty_letters(self):
        self.check_taken([GOOD] * 40)

    def test_a_letter_needs_no_road(self):
        self.check_taken([("b", 1, "a"), ("c", 1, "b")])

    def test_least_and_greatest_turn(self):
        self.check_taken([("a", 0, "b")])
        self.check_taken([("a", 10 ** 9, "b")])
        self.check_taken([("a", 10 ** 9 - 30, "b"), ("a", 10 ** 9, "b")])

    def test_turns_thirty_apart(self):
        self.check_taken([("a", 0, "b"), ("a", 30, "b")])
        self.check_taken([("a", 45, "b"), ("a", 20, "b"), ("b", 15, "c")])

    def test_forty_letters_thirty_apart(self):
        self.check_taken([("a", 100 + number % 31, "b") for number in range(40)])


class RefusedTest(LettersCase):
    def test_forty_one_letters(self):
        self.check_refused([GOOD] * 41, None)
        self.check_refused([GOOD] * 100, None)

    def test_turns_too_far_apart(self):
        self.check_refused([("a", 0, "b"), ("a", 31, "b")], None)
        self.check_refused([("a", 31, "b"), ("a", 0, "b")], None)
        self.check_refused([("a", 50, "b"), ("a", 35, "b"), ("a", 66, "b"), ("a", 40, "b")], None)
        self.check_refused([("a", 10 ** 9, "b"), ("a", 0, "b")], None)

    def test_too_many_and_too_far_apart(self):
        self.check_refused([("a", number, "b") for number in range(41)], None)

    def test_things_that_are_no_letters(self):
        for place, thing in enumerate(NO_LETTERS):
            with self.subTest(place=place):
                self.check_refused([thing], 0)
                self.check_refused([thing, GOOD], 0)
                self.check_refused([GOOD, thing], 1)
                self.check_refused([GOOD, GOOD, thing, GOOD], 2)

    def test_the_first_of_several_is_told(self):
        for place, thing in enumerate(NO_LETTERS):
            with self.subTest(place=place):
                self.check_refused([GOOD, thing, GOOD, None], 1)
                self.check_refused([GOOD, None, thing], 1)

    def test_no_letter_goes_ahead_of_too_many(self):
        for place, thing in enumerate(NO_LETTERS):
            with self.subTest(place=place):
                self.check_refused([thing] + [GOOD] * 41, 0)
                self.check_refused([GOOD] * 20 + [thing] + [GOOD] * 40, 20)
                self.check_refused([GOOD] * 41 + [thing], 41)

    def test_no_letter_goes_ahead_of_too_far_apart(self):
        far_apart = [("a", 0, "b"), ("a", 31, "b")]
        for place, thing in enumerate(NO_LETTERS):
            with self.subTest(place=place):
                self.check_refused([thing] + far_apart, 0)
                self.check_refused(far_apart + [thing], 2)

    def test_a_wrong_turn_is_not_measured(self):
        self.check_refused([("a", 0, "b"), ("a", 10 ** 9 + 1, "b")], 1)
        self.check_refused([("a", 0, "b"), ("a", "31", "b")], 1)

    def test_each_mixture_in_a_letter(self):
        odd = [True, None, "", "d", [], ["a"], ("a", [5]), -1]
        ends = ["a", "b"] + odd
        turns = [0, 10 ** 9] + odd
        taken = 0
        for letter in itertools.product(ends, turns, ends):
            good_ends = (letter[0], letter[2]) in [("a", "b"), ("b", "a")]
            if good_ends and not any(any(thing is other for other in odd) for thing in letter):
                self.check_taken([letter])
                taken += 1
            else:
                self.check_refused([letter], 0)
        self.assertEqual(taken, 4)

    def test_things_deep_within_one_another(self):
        deep = []
        for step in range(20000):
            deep = [deep] if step % 2 else (deep,)
        for thing in [deep, (deep, 5, deep), (deep, 5, "b"), ("a", deep, "b"), ("a", 5, deep)]:
            self.check_refused([GOOD, thing], 1)

    def test_a_net_without_houses_has_no_letter(self):
        self.net = Net([], [])
        self.check_taken([])
        self.check_refused([GOOD], 0)

    def test_houses_are_those_of_the_net_handed_in(self):
        self.net = Net(["b", "c"], [])
        self.check_refused([("b", 5, "c"), GOOD], 1)


class OwnListsTest(LettersCase):
    def test_what_is_handed_in_stays_as_it_is(self):
        for some in [[("b", 9, "a"), GOOD], [("b", 9, "a"), ["a", 5, "b"], ([], 1, [])], [GOOD] * 41]:
            kept = copy.deepcopy(some)
            try:
                letters_of(self.net, some)
            except NoLetter:
                pass
            self.assertEqual(some, kept)

    def test_the_list_told_is_a_new_one(self):
        some = [GOOD, ("b", 6, "c")]
        told = letters_of(self.net, some)
        some.append(("c", 7, "a"))
        some[0] = None
        self.assertEqual(told, [GOOD, ("b", 6, "c")])

    def test_the_list_told_is_the_askers_own(self):
        some = [GOOD, ("b", 6, "c")]
        letters_of(self.net, some).clear()
        self.assertEqual(some, [GOOD, ("b", 6, "c")])
        self.assertEqual(letters_of(self.net, some), [GOOD, ("b", 6, "c")])

    def test_the_empty_list_told_is_a_new_one(self):
        some = []
        letters_of(self.net, some).append(GOOD)
        self.assertEqual(some, [])
        self.assertEqual(letters_of(self.net, some), [])

    def test_the_net_stays_as_it_is(self):
        letters_of(self.net, [GOOD])
        self.assertEqual(self.net.houses(), ["a", "b", "c"])
        self.assertEqual(self.net.roads(), [("a", "b", 1, 1)])


if __name__ == "__main__":
    unittest.main()
