"""What several test files use: the check of a refusal, and nets, letters and tables by chance."""

import unittest

from postroad.errors import (
    BadBag,
    CutOff,
    ManyGoals,
    NoDay,
    NoHouse,
    NoLetter,
    NoNet,
    NoRoad,
    NoRow,
    NoText,
    NoWay,
    RoadError,
)
from postroad.net import Net
from postroad.ways import Ways

REFUSALS = [NoNet, NoHouse, NoRoad, NoLetter, BadBag, NoWay, ManyGoals, CutOff, NoText, NoRow, NoDay]


class RefusalCase(unittest.TestCase):
    def check_refused(self, kind, asked, *handed):
        """Tells the error, so that its values can be looked at."""
        with self.assertRaises(RoadError) as caught:
            asked(*handed)
        self.assertIsInstance(caught.exception, ValueError)
        kinds = [refusal for refusal in REFUSALS if isinstance(caught.exception, refusal)]
        self.assertEqual(kinds, [kind])
        return caught.exception


def some_net(chance, most_houses=6, most_roads=14, most_room=3):
    houses = list("abcdefghijkl"[:chance.randint(2, most_houses)])
    chance.shuffle(houses)
    roads = []
    for number in range(chance.randint(0, most_roads)):
        one, other = chance.sample(houses, 2)
        roads.append((one, other, chance.randint(1, chance.choice([2, 9])), chance.randint(1, most_room)))
    return Net(houses, roads)


def some_letters(chance, net, most=12, goal=None):
    first = chance.choice([0, 5, 10 ** 9 - 30])
    letters = []
    for number in range(chance.randint(0, most)):
        aim = goal or chance.choice(net.houses())
        house = chance.choice([house for house in net.houses() if house != aim])
        letters.append((house, first + chance.randint(0, chance.choice([0, 4, 30])), aim))
    return letters


def some_ways(chance, net):
    """Ways taken blindly, so that some are missing and some lead round."""
    ways = Ways(net)
    for house in net.houses():
        for goal in net.houses():
            if goal != house and net.out_of(house) and chance.random() < 0.8:
                ways.set_way(house, goal, chance.choice(net.out_of(house)))
    return ways
