"""Points 2 and 25: a desk that is told rows and answers with texts."""

import random
import unittest

from helper import RefusalCase, some_letters, some_net, some_ways
from postroad.days import Day
from postroad.desk import Desk
from postroad.errors import (
    BadBag,
    CutOff,
    ManyGoals,
    NoDay,
    NoHouse,
    NoLetter,
    NoNet,
    NoRoad,
    NoRow,
    NoText,
    NoWay,
    RoadError,
)
from postroad.flows import most
from postroad.least import least
from postroad.plans import arrivals
from postroad.runs import run
from postroad.several import bounds
from postroad.texts import show_plan
from postroad.ways import shortest

ROWS = {
    "house": "a", "road": "a b 1 1", "letter": "a b 1", "way": "a b 0", "shortest": "", "day": "1", "far": "a b",
    "route": "a b", "run": "", "home": "", "most": "1", "least": "", "bounds": "", "post": "a b", "pass": "",
    "turn": "", "spot": "0", "shut": "0", "reopen": "0", "log": "",
}
DAY_ROWS = ["post a b", "pass", "turn", "spot 0", "shut 0", "reopen 0", "log"]
WRONG_NUMBERS = [
    "-1", "+1", "-0", "01", "00", "10000000000", "99999999999", "x", "1x", "1.0", "1_0", "0x1", "1\n", "\n1",
    "1:", "1;", "\u0661", "\u00b2", "--", "1-",
]
HOUSES = list("abcdefghijkl")


def rows_of(net, letters=()):
    """The rows that make a desk's net and letters."""
    rows = [f"house {house}" for house in net.houses()]
    rows += [f"road {road[0]} {road[1]} {road[2]} {road[3]}" for road in net.roads()]
    return rows + [f"letter {house} {goal} {turn}" for house, turn, goal in letters]


def told_or_refused(asked):
    """What is told, or the class and the values of what it is refused with."""
    try:
        return asked()
    except RoadError as error:
        return (type(error).__name__, vars(error))


def of_blanks(numbers):
    return " ".join("-" if number is None else str(number) for number in numbers)


class DeskCase(RefusalCase):
    def setUp(self):
        self.desk = Desk()

    def check_said(self, row, text):
        told = self.desk.say(row)
        self.assertIs(type(told), str)
        self.assertEqual(told, text, row)

    def check_all_said(self, *rows_and_texts):
        for row, text in rows_and_texts:
            self.check_said(row, text)

    def begin(self, *rows):
        for row in rows:
            self.desk.say(row)

    def check_no(self, kind, *rows):
        """Each row is refused, twice over, and all that stands is as it was."""
        for row in rows:
            with self.subTest(row=row):
                before = self.all_that_stands()
                self.check_refused(kind, self.desk.say, row)
                error = self.check_refused(kind, self.desk.say, row)
                self.assertEqual(self.all_that_stands(), before)
        return error

    def all_that_stands(self):
        """What questions tell of the net, the letters, the ways and the day."""
        asked = ["run", "home", "least", "bounds", "most 9", "log", "turn", "check 0 0: 0", "check 1 0: 1"]
        names = HOUSES[:4]
        asked += [f"{word} {one} {other}" for word in ["far", "route"] for one in names for other in names]
        asked += [f"spot {number}" for number in range(3)]
        return [self.answer(row) for row in asked]

    def answer(self, row):
        return told_or_refused(lambda: self.desk.say(row))


class NewDeskTest(DeskCase):
    def test_nothing_stands_at_first(self):
        self.check_all_said(("run", ""), ("home", ""), ("check ", ""), ("most 0", "0"), ("most 9999999999", "0"))
        self.check_all_said(("shortest", "ok"), ("run", ""))
        self.assertIsNone(self.check_no(NoLetter, "least").number)
        self.assertIsNone(self.check_no(NoLetter, "bounds").number)
        self.check_no(NoHouse, "far a b", "far a a", "route a b", "route a a", "way a b 0", "way a b -")
        self.check_no(NoDay, *DAY_ROWS)
        self.check_no(NoNet, "road a b 1 1")
        self.assertEqual(self.check_no(NoLetter, "letter a b 0").number, 0)
        self.check_said("check 3 0: 1", "bad 0 road")

    def test_a_day_of_no_houses(self):
        self.check_all_said(("day 0", "ok"), ("turn", "0"), ("pass", ""), ("log", ""), ("turn", "1"))
        self.check_no(NoLetter, "post a b", "spot 0")
        self.check_no(NoRoad, "shut 0", "reopen 0")


class NetRowsTest(DeskCase):
    def test_houses(self):
        for house in HOUSES:
            self.check_said("house " + house, "ok")
        for house in HOUSES:
            self.check_said(f"far {house} {house}", "0")
        self.check_no(NoNet, "house m")
        self.check_no(NoHouse, "far m a")

    def test_houses_that_make_no_net(self):
        self.begin("house a", "house abcdefgh")
        self.check_no(NoNet, "house a", "house abcdefgh", "house abcdefghi", "house A", "house 1", "house a1")
        self.check_no(NoNet, "house -", "house a\n", "house \n", "house a-b", "house ~", "house a;b", "house \u00e4")
        self.check_said("far a abcdefgh", "-")

    def test_roads(self):
        self.begin("house a", "house b")
        self.check_all_said(("road a b 1 1", "0"), ("road b a 9 1000000000", "1"), ("road a b 1 1", "2"))
        self.check_all_said(("far a b", "1"), ("far b a", "9"))
        for number in range(3, 40):
            self.check_said("road a b 2 2", str(number))
        self.check_no(NoNet, "road a b 2 2", "road b a 1 1")
        self.check_said("far b a", "9")

    def test_roads_that_make_no_net(self):
        self.begin("house a", "house b")
        self.check_no(NoNet, "road a a 1 1", "road a x 1 1", "road x b 1 1", "road a b 0 1", "road a b 10 1")
        self.check_no(NoNet, "road a b 1 0", "road a b 1 1000000001", "road a b 9999999999 1", "road a b 1 9999999999")
        self.check_no(NoNet, "road 1 2 1 1", "road - b 1 1", "road a b\n 1 1")
        self.check_said("road a b 1 1", "0")

    def test_far(self):
        self.begin("house a", "house b", "house c", "road a b 2 1", "road b c 3 1", "road a c 9 1")
        self.check_all_said(("far a c", "5"), ("far a b", "2"), ("far c a", "-"), ("far b b", "0"))
        self.check_no(NoHouse, "far a x", "far x a", "far x x", "far A a")


class LetterRowsTest(DeskCase):
    def setUp(self):
        DeskCase.setUp(self)
        self.begin("house a", "house b", "house c", "road a b 2 1", "road b c 3 1", "shortest")

    def test_letters(self):
        self.check_all_said(("letter a b 5", "0"), ("letter b c 0", "1"), ("letter a c 30", "2"))
        self.check_said("letter c a 30", "3")
        self.check_said("home", "7 3 35 -")
        self.check_said("run", "0 1: 1; 5 0: 0; 30 0: 2; 32 1: 2")

    def test_no_letter_by_itself(self):
        for number in range(2):
            for words in ["a a 5", "a x 5", "x a 5", "x x 5", "a b 1000000001", "a b 9999999999"]:
                self.assertEqual(self.check_no(NoLetter, "letter " + words).number, number)
            self.check_said("letter a b 5", str(number))

    def test_letters_too_far_apart(self):
        self.begin("letter a b 40")
        for row in ["letter a b 9", "letter a b 71", "letter a b 1000000000"]:
            self.assertIsNone(self.check_no(NoLetter, row).number)
        self.check_all_said(("letter a b 10", "1"), ("letter a b 40", "2"))
        self.assertIsNone(self.check_no(NoLetter, "letter a b 41").number)

    def test_too_many_letters(self):
        for number in range(40):
            self.check_said("letter a b 1000000000", str(number))
        self.assertIsNone(self.check_no(NoLetter, "letter a b 1000000000").number)
        self.assertEqual(self.check_no(NoLetter, "letter b b 1000000000").number, 40)
        self.check_said("least", "1000000041")


class WayRowsTest(DeskCase):
    def setUp(self):
        DeskCase.setUp(self)
        self.begin("house a", "house b", "house c", "road a b 2 1", "road b c 3 1", "road a c 9 1")

    def test_ways(self):
        self.check_all_said(("way a c 0", "ok"), ("way b c 1", "ok"), ("route a c", "0 1"), ("way a c 2", "ok"))
        self.check_all_said(("route a c", "2"), ("way a c -", "ok"), ("way a c -", "ok"), ("way c a -", "ok"))
        error = self.check_no(NoWay, "route a c")
        self.assertEqual((error.reason, error.seen), ("none", ["a"]))

    def test_ways_are_refused_as_in_a_table(self):
        self.begin("way a c 0")
        self.check_no(NoHouse, "way a a 0", "way x c 0", "way a x 0", "way a a -", "way x c -", "way x c 99")
        self.check_no(NoRoad, "way a c 1", "way a c 3", "way a c 9999999999", "way c a 0")
        self.check_said("way a c 2", "ok")

    def test_the_shortest_table(self):
        self.check_no(NoWay, "route a c")
        self.check_all_said(("shortest", "ok"), ("route a c", "0 1"), ("route a b", "0"), ("route b c", "1"))
        self.begin("way a c 2", "way b c -")
        self.check_all_said(("route a c", "2"), ("shortest", "ok"), ("route a c", "0 1"))

    def test_the_shortest_table_of_the_net_as_it_is_now(self):
        self.begin("shortest", "road a c 1 1", "house d", "road c d 1 1")
        self.check_said("route a c", "0 1")
        self.check_no(NoWay, "route a d")
        self.check_all_said(("shortest", "ok"), ("route a c", "3"), ("route a d", "3 4"))

    def test_the_shortest_table_has_no_other_ways(self):
        self.begin("road c a 1 1", "road c b 9 1", "way c b 4", "way a b 2")
        self.check_said("route c b", "4")
        self.begin("shortest")
        self.check_said("route c b", "3 0")

    def test_route(self):
        self.begin("way a c 0", "road b a 1 1", "way b c 3")
        for house in ["a", "b", "c"]:
            self.check_said(f"route {house} {house}", "")
        self.check_no(NoHouse, "route a x", "route x a", "route x x")
        error = self.check_no(NoWay, "route a c")
        self.assertEqual((error.reason, error.seen), ("round", ["a", "b", "a"]))


class QuestionRowsTest(DeskCase):
    def setUp(self):
        DeskCase.setUp(self)
        self.begin("house a", "house b", "house c", "road a b 1 1", "road b c 3 1", "road a c 9 2")

    def test_run_and_home(self):
        self.check_all_said(("run", ""), ("home", ""))
        self.begin("letter a c 0", "letter a b 0", "letter c a 0", "letter a c 1")
        self.check_all_said(("run", ""), ("home", "- - - -"))
        self.begin("way a c 2")
        self.check_all_said(("run", "0 2: 0; 1 2: 3"), ("home", "9 - - 10"))
        self.begin("shortest")
        self.check_all_said(("run", "0 0: 0; 1 0: 1; 1 1: 0; 2 0: 3; 3 1: 3"), ("home", "4 2 - 6"))

    def test_letters_of_one_bag(self):
        self.begin("letter a c 7", "letter a c 7", "letter a c 7", "way a c 2")
        self.check_all_said(("run", "7 2: 0 1; 8 2: 2"), ("home", "16 16 17"))

    def test_one_letter(self):
        self.begin("letter a b 0", "shortest")
        self.check_all_said(("run", "0 0: 0"), ("home", "1"), ("least", "1"), ("bounds", "1 1"), ("most 0", "0"))
        self.check_all_said(("most 1", "1"), ("most 300", "1"))

    def test_most_and_least(self):
        self.begin("letter a c 0", "letter a c 0", "letter a c 1", "letter b c 0")
        self.check_all_said(("most 0", "0"), ("most 2", "0"), ("most 3", "1"), ("most 4", "2"), ("most 5", "3"))
        self.check_all_said(("most 6", "4"), ("most 300", "4"), ("least", "6"), ("bounds", "6 6"))

    def test_letters_of_several_goals(self):
        self.begin("letter a c 0", "letter a b 0")
        self.check_no(ManyGoals, "most 4", "least")
        self.check_said("bounds", "4 4")

    def test_low_and_high_that_are_not_the_same(self):
        self.begin("house d", "road b d 3 1", "letter a c 0", "letter a d 0")
        self.check_said("bounds", "4 5")

    def test_letters_that_are_cut_off(self):
        self.begin("letter a c 0", "letter b a 0")
        error = self.check_no(CutOff, "bounds")
        self.assertEqual((error.number, error.seen), (1, ["b", "c"]))
        self.check_no(ManyGoals, "least", "most 4")
        desk = Desk()
        for row in ["house a", "house b", "letter b a 0"]:
            desk.say(row)
        error = self.check_refused(CutOff, desk.say, "least")
        self.assertEqual((error.number, error.seen), (0, ["b"]))
        self.assertEqual(desk.say("most 5"), "0")

    def test_questions_do_not_hang_on_the_ways(self):
        self.begin("letter a c 0", "letter a c 0")
        before = [self.desk.say(row) for row in ["most 4", "least", "bounds", "far a c"]]
        self.begin("way a c 2", "way b c 1")
        self.assertEqual([self.desk.say(row) for row in ["most 4", "least", "bounds", "far a c"]], before)


class CheckRowsTest(DeskCase):
    def setUp(self):
        DeskCase.setUp(self)
        self.begin("house a", "house b", "house c", "road a b 1 1", "road b c 3 2", "letter a c 0", "letter a b 1")

    def test_plans(self):
        self.check_said("check 0 0: 0; 1 0: 1; 1 1: 0", "4 2")
        self.check_said("check 0 0: 0; 1 1: 0", "4 -")
        self.check_said("check 1000000000 0: 1", "- 1000000001")

    def test_no_text_behind_the_blank(self):
        self.check_said("check ", "- -")

    def test_no_letters(self):
        self.desk = Desk()
        self.check_said("check ", "")

    def test_no_blank(self):
        self.check_no(NoRow, "check")

    def test_no_text_of_a_plan(self):
        self.check_no(NoText, "check  ", "check   ", "check  0 0: 0", "check 0 0: 0 ", "check  0 0: 0 ", "check 0 0:")
        self.check_no(NoText, "check x", "check 0 0: 0;", "check 0 0: 00", "check 0 0 0", "check 0 0: 0\n", "check \n")
        self.check_no(NoText, "check 10000000000 0: 0", "check -1 0: 0", "check check ", "check ;", "check -")

    def test_plans_that_are_amiss(self):
        self.check_said("check 0 0: 0; 0 0: 1", "bad 1 order")
        self.check_said("check 0 2: 0", "bad 0 road")
        self.check_said("check 0 0: 0 1", "bad 0 room")
        self.check_said("check 0 0: 2", "bad 0 letter")
        self.check_said("check 0 1: 1 0", "bad 0 letter")
        self.check_said("check 0 0: 0; 1 0: 1; 2 0: 1", "bad 2 there")
        self.check_said("check 0 0: 1", "bad 0 there")

    def test_what_is_amiss_is_no_refusal(self):
        try:
            self.desk.say("check 0 0: 1")
        except BadBag:
            self.fail("BadBag was raised")

    def test_it_does_not_hang_on_the_ways(self):
        self.begin("shortest", "way a c -")
        self.check_said("check 0 0: 0; 1 0: 1; 1 1: 0", "4 2")

    def test_nothing_goes_by_a_plan_that_is_checked(self):
        before = self.all_that_stands()
        self.begin("check 0 0: 0; 1 0: 1; 1 1: 0", "check 0 0: 1", "check ")
        self.assertEqual(self.all_that_stands(), before)


class DayRowsTest(DeskCase):
    def setUp(self):
        DeskCase.setUp(self)
        self.begin("house a", "house b", "house c", "road a b 1 1", "road b c 3 2")

    def test_a_day(self):
        self.check_all_said(("day 7", "ok"), ("turn", "7"), ("log", ""), ("post a c", "0"), ("post a c", "1"))
        self.check_all_said(("spot 0", "at a since 7"), ("pass", "7 0: 0"), ("turn", "8"), ("spot 0", "at b since 8"))
        self.check_all_said(("pass", "8 0: 1; 8 1: 0"), ("spot 0", "on 1 until 11"), ("log", "7 0: 0; 8 0: 1; 8 1: 0"))
        self.check_all_said(("pass", "9 1: 1"), ("pass", ""), ("spot 0", "home since 11"), ("spot 1", "on 1 until 12"))
        self.check_all_said(("turn", "11"), ("pass", ""), ("spot 1", "home since 12"))
        self.check_said("log", "7 0: 0; 8 0: 1; 8 1: 0; 9 1: 1")

    def test_the_first_turn(self):
        for turn in ["0", "1000000000"]:
            self.check_all_said(("day " + turn, "ok"), ("turn", turn))
        self.check_no(NoRow, "day 1000000001", "day 9999999999", "day 10000000000", "day -1", "day 07")
        self.check_said("turn", "1000000000")

    def test_roads_that_are_shut(self):
        self.check_all_said(("day 0", "ok"), ("post a b", "0"), ("shut 0", "ok"), ("shut 0", "ok"), ("pass", ""))
        self.check_all_said(("reopen 0", "ok"), ("reopen 0", "ok"), ("reopen 1", "ok"), ("pass", "1 0: 0"))
        self.check_no(NoRoad, "shut 2", "reopen 2", "shut 9999999999", "reopen 9999999999")

    def test_letters_that_are_refused(self):
        self.begin("day 0")
        for row in ["post a a", "post a x", "post x a", "post A b", "post 0 1"]:
            self.assertEqual(self.check_no(NoLetter, row).number, 0)
        self.begin("post a b")
        self.assertEqual(self.check_no(NoLetter, "post a a").number, 1)
        self.begin(*["pass"] * 31)
        self.assertIsNone(self.check_no(NoLetter, "post a b").number)

    def test_spots_that_are_refused(self):
        self.begin("day 0", "post a b")
        for number in [1, 2, 9999999999]:
            self.assertEqual(self.check_no(NoLetter, f"spot {number}").number, number)
        self.check_no(NoRow, "spot -1", "spot 00", "spot 01")

    def test_where_no_day_has_begun(self):
        self.check_no(NoDay, *DAY_ROWS)
        self.check_no(NoDay, "post a a", "post x y", "spot 99", "shut 99", "reopen 99")
        self.check_no(NoRow, "post a", "post", "post a b c", "pass 1", "turn ", " turn", "spot", "spot x", "spot -1")
        self.check_no(NoRow, "shut", "shut -1", "reopen 01", "reopen a", "log 0", "shut 10000000000", "turn 1", "logs")
        self.check_no(NoRow, "day 1000000001")
        self.check_no(NoDay, *DAY_ROWS)

    def test_a_new_day_in_the_place_of_the_old_one(self):
        self.begin("day 0", "post a c", "post b c", "shut 1", "pass", "day 5")
        self.check_all_said(("turn", "5"), ("log", ""), ("post b c", "0"), ("pass", "5 1: 0"))
        self.check_no(NoLetter, "spot 1")
        self.begin("road a c 1 1", "day 9")
        self.check_all_said(("turn", "9"), ("post a c", "0"), ("pass", "9 2: 0"), ("log", "9 2: 0"))

    def test_the_day_has_its_own_letters_and_ways(self):
        self.begin("letter a b 4", "shortest", "day 0")
        self.check_no(NoLetter, "spot 0")
        self.check_said("post a c", "0")
        self.check_all_said(("way a c -", "ok"), ("way b c -", "ok"), ("pass", "0 0: 0"), ("pass", "1 1: 0"))
        self.check_all_said(("home", "5"), ("run", "4 0: 0"))
        self.begin("shut 0")
        self.check_said("run", "4 0: 0")

    def test_the_day_has_the_shortest_table_also_where_the_desk_has_no_ways(self):
        self.begin("day 0", "post a c")
        self.check_all_said(("pass", "0 0: 0"), ("run", ""))


class StayTest(DeskCase):
    def setUp(self):
        DeskCase.setUp(self)
        self.begin("house a", "house b", "house c", "road a b 1 1", "road b c 3 2", "road a c 9 1")
        self.begin("letter a c 0", "letter a b 0", "way a c 2", "way a b 0", "day 4", "post a c", "shut 1")

    def test_a_house_comes(self):
        before = self.all_that_stands()
        self.check_said("house d", "ok")
        after = self.all_that_stands()
        told = [one for one, other in zip(before, after) if one != other]
        self.assertEqual([text for text in told if text != ("NoHouse", {})], [])
        self.check_all_said(("route a c", "2"), ("run", "0 0: 1; 0 2: 0"), ("home", "9 1"), ("spot 0", "at a since 4"))
        self.check_no(NoLetter, "post a d")
        self.check_said("letter d a 0", "2")

    def test_a_road_comes(self):
        self.check_said("road a c 1 9", "3")
        self.check_all_said(("route a c", "2"), ("run", "0 0: 1; 0 2: 0"), ("home", "9 1"), ("far a c", "1"))
        self.check_all_said(("bounds", "1 1"), ("turn", "4"))
        self.check_no(NoRoad, "shut 3", "reopen 3")
        self.check_all_said(("pass", "4 0: 0"), ("pass", ""), ("spot 0", "at b since 5"), ("way a c 3", "ok"))
        self.check_all_said(("run", "0 0: 1; 0 3: 0"), ("home", "1 1"))

    def test_a_letter_comes(self):
        self.check_said("letter b c 3", "2")
        self.check_all_said(("route a c", "2"), ("run", "0 0: 1; 0 2: 0"), ("home", "9 1 -"))
        self.check_no(NoLetter, "spot 1")
        self.check_all_said(("post b c", "1"), ("home", "9 1 -"), ("pass", "4 0: 0"), ("log", "4 0: 0"))

    def test_the_ways_stay_when_the_day_begins_or_passes(self):
        self.begin("day 0", "pass")
        self.check_all_said(("route a c", "2"), ("run", "0 0: 1; 0 2: 0"))
        self.check_no(NoWay, "route b c")

    def test_a_way_round_stays(self):
        self.begin("road b a 1 1", "way a c 0", "way b c 3", "house d", "road c d 1 1")
        error = self.check_no(NoWay, "route a c")
        self.assertEqual((error.reason, error.seen), ("round", ["a", "b", "a"]))


class NoRowTest(DeskCase):
    def setUp(self):
        DeskCase.setUp(self)
        self.begin("house a", "house b", "road a b 1 1", "letter a b 0", "shortest", "day 0", "post a b")

    def test_a_wrong_first_word(self):
        self.check_no(NoRow, "", "x", "houses a", "hous a", "House a", "HOUSE a", "a", "0", "-", "shorts", "days 1")
        self.check_no(NoRow, "arrivals", "say run", "reset", "run;", "run\n", "\nrun", "\n", "check\n", "check\n0 0: 0")
        self.check_no(NoRow, "checks 0 0: 0", "Check 0 0: 0", "check0 0: 0", "pass\n", "get", "shortest\t")

    def test_blanks(self):
        for first, behind in ROWS.items():
            row = (first + " " + behind).rstrip(" ")
            self.check_no(NoRow, " " + row, row + " ", " " + row + " ", "  " + row, row + "  ")
            if behind:
                self.check_no(NoRow, row.replace(" ", "  ", 1), "  ".join(row.rsplit(" ", 1)))
        self.check_no(NoRow, " ", "  ", " check 0 0: 0", " check ")

    def test_too_few_and_too_many_words(self):
        for first, behind in ROWS.items():
            row = (first + " " + behind).rstrip(" ")
            self.check_no(NoRow, row + " 1", row + " a", row + " -", row + " 1 1")
            if behind:
                self.check_no(NoRow, first, first + " ", row.rpartition(" ")[0])

    def test_numbers(self):
        for wrong in WRONG_NUMBERS:
            self.check_no(NoRow, f"road a b {wrong} 1")
            for ahead in ["road a b 1", "letter a b", "way a b", "day", "most", "spot", "shut", "reopen"]:
                self.check_no(NoRow, ahead + " " + wrong)
        self.check_no(NoRow, "day -", "most -", "spot -", "shut -", "road a b - 1", "road a b 1 -", "letter a b -")

    def test_ahead_of_what_the_row_itself_refuses(self):
        self.check_no(NoRow, "house 1 2", "road x y 0 -1", "road x y 01 0", "letter x y 00", "way x y 00", "far x")
        self.check_no(NoRow, "road a a 1", "route x", "most 01", "spot 99999999999", "shut 99999999999", "post x")

    def test_each_row_is_taken_where_it_is_one(self):
        self.check_all_said(("house c", "ok"), ("road b c 9 1", "1"), ("letter a c 0", "1"))
        self.check_all_said(("way a b 0", "ok"), ("way a c 0", "ok"), ("far a c", "10"), ("route a b", "0"))
        self.check_all_said(("run", "0 0: 0"), ("home", "1 -"), ("check ", "- -"), ("bounds", "10 10"))
        self.check_all_said(("pass", "0 0: 0"), ("turn", "1"), ("spot 0", "home since 1"), ("log", "0 0: 0"))
        self.check_all_said(("shut 0", "ok"), ("reopen 0", "ok"), ("shortest", "ok"), ("home", "1 11"))


class OwnTest(DeskCase):
    def test_two_desks_have_each_their_own(self):
        other = Desk()
        self.begin("house a", "house b", "road a b 1 1", "letter a b 3", "shortest", "day 5", "post a b", "shut 0")
        self.assertEqual(other.say("run"), "")
        self.check_refused(NoHouse, other.say, "far a b")
        self.check_refused(NoDay, other.say, "turn")
        for row in ["house b", "house a", "road b a 9 9", "letter b a 0", "shortest", "day 1", "post b a"]:
            other.say(row)
        self.check_all_said(("home", "4"), ("far a b", "1"), ("far b a", "-"), ("turn", "5"), ("pass", ""))
        self.assertEqual([other.say(row) for row in ["home", "far b a", "turn", "pass"]], ["9", "9", "1", "1 0: 0"])

    def test_asked_again_the_same_is_told(self):
        self.begin("house a", "house b", "house c", "road a b 1 1", "road b c 3 2", "letter a c 0", "letter a b 0")
        self.begin("shortest", "day 0", "post a c")
        self.assertEqual(self.all_that_stands(), self.all_that_stands())

    def test_what_an_error_tells_is_the_askers_own(self):
        self.begin("house a", "house b", "house c", "road a b 1 1", "letter a c 0")
        self.check_no(CutOff, "bounds").seen.clear()
        self.assertEqual(self.check_no(CutOff, "bounds").seen, ["a", "b"])
        self.check_no(NoWay, "route a b").seen.clear()
        self.assertEqual(self.check_no(NoWay, "route a b").seen, ["a"])


class ByChanceTest(DeskCase):
    def check_as_told(self, row, asked):
        """The row is answered with the text that asked tells, or refused as asked is. Tells whether it was answered."""
        expected = told_or_refused(asked)
        self.assertEqual(self.answer(row), expected, row)
        return isinstance(expected, str)

    def check_questions(self, net, letters, ways, turn):
        plan = run(net, letters, ways)
        home = of_blanks(arrivals(net, letters, plan))
        self.check_all_said(("run", show_plan(plan)), ("home", home), ("check " + show_plan(plan), home))
        answered = [
            self.check_as_told(f"most {turn}", lambda: str(most(net, letters, turn)[0])),
            self.check_as_told("least", lambda: str(least(net, letters)[0])),
            self.check_as_told("bounds", lambda: of_blanks(bounds(net, letters)[:2])),
        ]
        for one in net.houses():
            for other in net.houses():
                self.check_said(f"far {one} {other}", of_blanks([net.far(one, other)]))
                answered.append(self.check_as_told(f"route {one} {other}", lambda: of_blanks(ways.route(one, other))))
        return answered

    def test_questions_as_their_functions_answer(self):
        chance = random.Random(251)
        answered = []
        for trial in range(80):
            net = some_net(chance)
            letters = some_letters(chance, net, goal=chance.choice(net.houses() + [None] * 3))
            ways = chance.choice([shortest(net), some_ways(chance, net)])
            turn = max([letter[1] for letter in letters], default=0) + chance.randint(0, 20)
            self.desk = Desk()
            self.begin(*rows_of(net, letters))
            self.begin(*[f"way {house} {goal} {road}" for house, goal, road in ways.pairs()])
            answered += self.check_questions(net, letters, ways, turn)
        self.assertGreater(answered.count(True), 500)
        self.assertGreater(answered.count(False), 200)

    def day_rows(self, day, house, goal, number):
        """The rows of the day, each with what tells the same."""
        return [
            (f"post {house} {goal}", lambda: str(day.post(house, goal))),
            ("pass", lambda: show_plan(day.pass_turn())),
            ("turn", lambda: str(day.now())),
            (f"spot {number}", lambda: day.spot(number).line()),
            (f"shut {number}", lambda: day.shut(number) or "ok"),
            (f"reopen {number}", lambda: day.reopen(number) or "ok"),
            ("log", lambda: show_plan(day.log())),
        ]

    def test_days_as_they_are(self):
        chance = random.Random(252)
        bags = 0
        answered = []
        for trial in range(40):
            net = some_net(chance)
            self.desk = Desk()
            self.begin(*rows_of(net), f"day {trial}")
            day = Day(net, trial)
            for step in range(60):
                house, goal = chance.choice(net.houses()), chance.choice(net.houses())
                row, asked = chance.choice(self.day_rows(day, house, goal, chance.randrange(20)))
                answered.append(self.check_as_told(row, asked))
            self.check_said("log", show_plan(day.log()))
            bags += len(day.log())
        self.assertGreater(bags, 50)
        self.assertGreater(answered.count(True), 500)
        self.assertGreater(answered.count(False), 200)


if __name__ == "__main__":
    unittest.main()
