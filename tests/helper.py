"""What several test files use: the check of a refusal, cases by chance, and counts and searches by the words."""

import itertools
import unittest

from postroad.errors import (
    BadBag,
    CutOff,
    ManyGoals,
    NoDay,
    NoHouse,
    NoLetter,
    NoNet,
    NoRoad,
    NoRow,
    NoText,
    NoWay,
    RoadError,
)
from postroad.net import Net
from postroad.ways import Ways

REFUSALS = [NoNet, NoHouse, NoRoad, NoLetter, BadBag, NoWay, ManyGoals, CutOff, NoText, NoRow, NoDay]


class RefusalCase(unittest.TestCase):
    def check_refused(self, kind, asked, *handed):
        """Tells the error, so that its values can be looked at."""
        with self.assertRaises(RoadError) as caught:
            asked(*handed)
        self.assertIsInstance(caught.exception, ValueError)
        kinds = [refusal for refusal in REFUSALS if isinstance(caught.exception, refusal)]
        self.assertEqual(kinds, [kind])
        return caught.exception

    def check_cut_off_by(self, asked, net, letters, number, seen):
        error = self.check_refused(CutOff, asked, net, letters)
        self.assertEqual((error.number, error.seen), (number, seen))
        self.assertIs(type(error.number), int)
        self.assertIs(type(error.seen), list)


class PaperCase(RefusalCase):
    def check_paper_turns(self, net, paper, turn):
        """All houses are told of, with turns from 0 on or None, none of them too far from a turn."""
        self.assertIs(type(paper), dict)
        self.assertEqual(sorted(paper), sorted(net.houses()))
        for from_on in paper.values():
            if from_on is not None:
                self.assertIs(type(from_on), int)
                self.assertGreaterEqual(from_on, 0)
                self.assertLessEqual(abs(from_on - turn), 400)


def some_net(chance, most_houses=6, most_roads=14, most_room=3):
    houses = list("abcdefghijkl"[:chance.randint(2, most_houses)])
    chance.shuffle(houses)
    roads = []
    for number in range(chance.randint(0, most_roads)):
        one, other = chance.sample(houses, 2)
        roads.append((one, other, chance.randint(1, chance.choice([2, 9])), chance.randint(1, most_room)))
    return Net(houses, roads)


def some_letters(chance, net, most=12, goal=None):
    first = chance.choice([0, 5, 10 ** 9 - 30])
    letters = []
    for number in range(chance.randint(0, most)):
        aim = goal or chance.choice(net.houses())
        house = chance.choice([house for house in net.houses() if house != aim])
        letters.append((house, first + chance.randint(0, chance.choice([0, 4, 30])), aim))
    return letters


def small_case(chance, most_letters, most_turns=2):
    """A net and letters of one goal, so few that all that can be done with them can be listed."""
    houses = list("abcd"[:chance.randint(2, 4)])
    roads = []
    for number in range(chance.randint(1, 5)):
        one, other = chance.sample(houses, 2)
        roads.append((one, other, chance.randint(1, most_turns), chance.randint(1, 2)))
    goal = chance.choice(houses)
    others = [house for house in houses if house != goal]
    letters = [(chance.choice(others), chance.randint(0, 2), goal) for number in range(chance.randint(1, most_letters))]
    return Net(houses, roads), letters


def some_ways(chance, net):
    """Ways taken blindly, so that some are missing and some lead round."""
    ways = Ways(net)
    for house in net.houses():
        for goal in net.houses():
            if goal != house and net.out_of(house) and chance.random() < 0.8:
                ways.set_way(house, goal, chance.choice(net.out_of(house)))
    return ways


def some_paper(chance, net, goal, turn):
    """Turns around the one that is asked about, some far ahead of it, None for the goal."""
    paper = {}
    for house in net.houses():
        from_on = max(0, turn + chance.randint(-chance.choice([4, 12, 400]), 4))
        paper[house] = None if house == goal else chance.choice([None, from_on, from_on])
    return paper


def sums_by_the_words(net, letters, paper, turn):
    """The two sums of a paper, letter by letter, road by road and turn by turn."""
    def is_in(house, when):
        return paper[house] is not None and paper[house] <= when

    out = 0
    for house, own, goal in letters:
        if own <= turn and not is_in(house, own):
            out += 1
    carried = 0
    for house, other, turns, room in net.roads():
        for leaves in range(max(0, turn - 900), turn + 1):
            if is_in(house, leaves) and not is_in(other, leaves + turns) and leaves + turns <= turn:
                carried += room
    return out, carried


def most_by_search(net, letters, turn):
    """The most letters that can be home by a turn, by all that each letter can do at each turn."""
    roads = net.roads()
    known = {}

    def choices(lies, number, now):
        house, since = lies[number]
        if since > now or house == letters[number][2]:
            return [None]
        return [None] + net.out_of(house)

    def best(lies, now):
        if now > turn:
            return sum(house == letter[2] and since <= turn for (house, since), letter in zip(lies, letters))
        if (lies, now) not in known:
            known[(lies, now)] = max(best(after, now + 1) for after in all_after(lies, now))
        return known[(lies, now)]

    def all_after(lies, now):
        for taken in itertools.product(*[choices(lies, number, now) for number in range(len(letters))]):
            if all(taken.count(road) <= roads[road][3] for road in taken if road is not None):
                yield tuple(
                    (house, max(since, now)) if road is None else (roads[road][1], now + roads[road][2])
                    for (house, since), road in zip(lies, taken)
                )

    first = min((letter[1] for letter in letters), default=0)
    return best(tuple(letter[:2] for letter in letters), first)


def every_plan(net, letters, last):
    """Every plan whose bags leave from the least of the letters' turns up to the turn last."""
    roads = net.roads()
    first = min(letter[1] for letter in letters)
    moments = [(turn, road) for turn in range(first, last + 1) for road in range(len(roads))]

    def go_on(plan, lies, place):
        if place == len(moments):
            yield plan
            return
        turn, road = moments[place]
        here = [number for number, letter in enumerate(letters)
                if lies[number][0] == roads[road][0] != letter[2] and lies[number][1] <= turn]
        yield from go_on(plan, lies, place + 1)
        for count in range(1, min(len(here), roads[road][3]) + 1):
            for numbers in itertools.combinations(here, count):
                after = dict(lies)
                for number in numbers:
                    after[number] = (roads[road][1], turn + roads[road][2])
                yield from go_on(plan + [(turn, road, numbers)], after, place + 1)

    return go_on([], {number: letter[:2] for number, letter in enumerate(letters)}, 0)
