"""Points 2 and 24: a plan's text, and a text read again."""

import random
import unittest

from helper import RefusalCase, some_letters, some_net
from postroad.errors import NoText
from postroad.plans import arrivals
from postroad.runs import run
from postroad.texts import read_plan, show_plan
from postroad.ways import shortest


class TextsCase(RefusalCase):
    def check_text(self, plan, text):
        """The plan is written so, and the text is read as the same list."""
        shown = show_plan(plan)
        self.assertIs(type(shown), str)
        self.assertEqual(shown, text)
        self.check_read(text, plan)

    def check_read(self, text, bags):
        told = read_plan(text)
        self.assertIs(type(told), list)
        self.assertEqual(told, bags)
        for bag in told:
            self.assertIs(type(bag), tuple)
            self.assertEqual([type(thing) for thing in bag], [int, int, tuple])
            self.assertEqual([type(number) for number in bag[2]], [int] * len(bag[2]))

    def check_no_text(self, *texts):
        for text in texts:
            with self.subTest(text=text):
                self.check_refused(NoText, read_plan, text)


class WrittenTest(TextsCase):
    def test_no_bag(self):
        self.check_text([], "")

    def test_one_bag(self):
        self.check_text([(3, 0, (1,))], "3 0: 1")
        self.check_text([(0, 0, (0,))], "0 0: 0")
        self.check_text([(10, 39, (39,))], "10 39: 39")

    def test_several_letters(self):
        self.check_text([(3, 0, (1, 4))], "3 0: 1 4")
        self.check_text([(7, 12, (0, 1, 2, 10, 20))], "7 12: 0 1 2 10 20")
        self.check_text([(7, 1, tuple(range(40)))], "7 1: " + " ".join(str(number) for number in range(40)))

    def test_several_bags(self):
        self.check_text([(3, 0, (1, 4)), (5, 2, (1,))], "3 0: 1 4; 5 2: 1")
        self.check_text([(0, 0, (0,)), (0, 1, (1, 2)), (100, 0, (3,))], "0 0: 0; 0 1: 1 2; 100 0: 3")

    def test_numbers_of_ten_figures(self):
        self.check_text([(1000000000, 0, (0,))], "1000000000 0: 0")
        most = 9999999999
        self.check_text([(most, most, (most, 0, most))], "9999999999 9999999999: 9999999999 0 9999999999")

    def test_numbers_with_noughts_behind(self):
        self.check_text([(10, 100, (1000, 20))], "10 100: 1000 20")

    def test_lists_that_are_no_plan(self):
        self.check_text([(5, 2, (1,)), (3, 0, (1, 4))], "5 2: 1; 3 0: 1 4")
        self.check_text([(3, 0, (4, 1, 4))], "3 0: 4 1 4")
        self.check_text([(3, 0, (1,)), (3, 0, (1,))], "3 0: 1; 3 0: 1")
        self.check_text([(3, 77, (99,))], "3 77: 99")


class ReadTest(TextsCase):
    def test_a_text_of_some_thousand_signs(self):
        bags = [(turn, turn % 40, (turn % 7, 39)) for turn in range(290)]
        text = show_plan(bags)
        self.assertGreater(len(text), 3500)
        self.assertLessEqual(len(text), 4000)
        self.check_read(text, bags)

    def test_by_chance(self):
        chance = random.Random(24)
        for trial in range(200):
            bags = []
            for place in range(chance.randint(0, 6)):
                numbers = [chance.choice([0, chance.randint(0, 9), chance.randint(0, 9999999999)]) for i in range(9)]
                bags.append((numbers[0], numbers[1], tuple(numbers[2:chance.randint(3, 9)])))
            self.check_read(show_plan(bags), bags)

    def test_plans_that_were_run(self):
        chance = random.Random(25)
        for trial in range(50):
            net = some_net(chance)
            letters = some_letters(chance, net)
            plan = run(net, letters, shortest(net))
            self.check_read(show_plan(plan), plan)
            self.assertEqual(arrivals(net, letters, read_plan(show_plan(plan))), arrivals(net, letters, plan))


class RefusedTest(TextsCase):
    def test_eleven_figures(self):
        self.check_no_text("10000000000 0: 1", "3 10000000000: 1", "3 0: 10000000000", "3 0: 1 10000000000")
        self.check_no_text("3 0: " + "9" * 3000, "3 0: 1; 99999999999 0: 1")

    def test_a_nought_ahead(self):
        self.check_no_text("03 0: 1", "3 00: 1", "3 0: 01", "3 0: 1 00", "3 01: 1", "3 0: 1; 05 0: 1")
        self.check_no_text("0000000003 0: 1", "3 0: 0000000000")

    def test_a_sign_ahead(self):
        self.check_no_text("-3 0: 1", "+3 0: 1", "3 -1: 1", "3 +0: 1", "3 0: -1", "3 0: +1", "3 0: -0", "-0 0: 1")

    def test_what_is_no_figure(self):
        self.check_no_text("a 0: 1", "3 b: 1", "3 0: c", "3.0 0: 1", "3 0: 1_0", "1_0 0: 1", "0x3 0: 1", "3 0: 1e2")
        self.check_no_text("3 0: 1,2", "3 0: 1, 2", "3 0: (1)", "3 0: '1'", "3 0: /", "3 0: ::", "3 0: 1:", "3: 0: 1")

    def test_figures_that_are_not_0_to_9(self):
        self.check_no_text("\u0663 0: 1", "3 0: \u0661", "3 \u0966: 1", "3 0: \u00b2", "3 0: 1\u00bd", "\uff13 0: 1")

    def test_a_bag_without_letters(self):
        self.check_no_text("3 0:", "3 0: ", "3 0:; 5 2: 1", "3 0: 1; 5 2:", "3 0: ; 5 2: 1", "3 0: 1; 5 2: ")

    def test_a_bag_without_a_colon(self):
        self.check_no_text("3 0 1", "3 0", "3", "3 0 1 4; 5 2: 1", "3 0: 1; 5 2 1", "3 0; 5 2: 1")

    def test_a_colon_elsewhere(self):
        self.check_no_text(":", ": 1", "3: 1", "3: 0 1", "3 0 : 1", "3 0 1:", "3 0:: 1", "3 : 1", "3 :0 1", "3 0: 1: 2")

    def test_a_number_missing(self):
        self.check_no_text("0: 1", " 0: 1", "3 : 1", "3 0: 1; 0: 1", "3 0: 1; : 1", "3 0: 1; 4: 1")

    def test_blanks_missing(self):
        self.check_no_text("3 0:1", "30: 1", "3 0:1 4", "3 0: 1;5 2: 1", "30:1", "3 0: 1; 52: 1", "3 0: 1 ;5 2: 1")

    def test_too_many_blanks(self):
        self.check_no_text("3  0: 1", "3 0 : 1", "3 0:  1", "3 0: 1  4", "3 0: 1;  5 2: 1", "3 0: 1 ; 5 2: 1")

    def test_blanks_at_the_ends(self):
        self.check_no_text(" ", "  ", " 3 0: 1", "3 0: 1 ", " 3 0: 1 ", "3 0: 1; 5 2: 1 ", "3 0: 1 4 ")

    def test_semicolons(self):
        self.check_no_text(";", "; ", " ;", ";;", "; ; ", "3 0: 1;", "3 0: 1; ", "3 0: 1 ;", "; 3 0: 1", ";3 0: 1")
        self.check_no_text("3 0: 1;; 5 2: 1", "3 0: 1; ; 5 2: 1", "3 0: 1; 5 2: 1;", "3 0: 1; 5 2: 1; ", "3; 0: 1")

    def test_line_ends(self):
        self.check_no_text("\n", "3 0: 1\n", "\n3 0: 1", "3 0:\n1", "3\n0: 1", "3 0: 1;\n5 2: 1", "3 0: 1\n; 5 2: 1")
        self.check_no_text("3 0: 1\r\n", "3 0: 1\r", "3 0:\t1", "3 0: 1\n5 2: 1", "3 0: 1; 5 2: 1\n", "3 0\n: 1")

    def test_words_of_letters(self):
        self.check_no_text("a", "ok", "three 0: 1", "3 road: 1", "3 0: one", "3 0: 1 x", "no plan", "None", "[]", "-")

    def test_every_text_that_lacks_one_sign_or_has_one_more(self):
        text = "3 0: 1 4; 15 2: 1"
        plans = 0
        for place in range(len(text) + 1):
            for sign in ["", " ", ";", ":", "0", "7", "-", "x", "\n"]:
                for after in [place, place + 1]:
                    changed = text[:place] + sign + text[after:]
                    try:
                        bags = read_plan(changed)
                    except NoText:
                        continue
                    self.assertEqual(show_plan(bags), changed)
                    self.assertTrue(all(bag[2] for bag in bags))
                    plans += 1
        self.assertGreater(plans, 20)


class OwnListsTest(TextsCase):
    def test_what_is_handed_in_stays_as_it_is(self):
        plan = [(5, 2, (1,)), (3, 0, (4, 1))]
        show_plan(plan)
        self.assertEqual(plan, [(5, 2, (1,)), (3, 0, (4, 1))])

    def test_what_is_told_is_the_askers_own(self):
        for text, bags in [("", []), ("3 0: 1", [(3, 0, (1,))])]:
            told = read_plan(text)
            told.append((9, 9, (9,)))
            self.check_read(text, bags)
            self.assertEqual(told, bags + [(9, 9, (9,))])


if __name__ == "__main__":
    unittest.main()
