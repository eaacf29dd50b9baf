"""Plans: bags that leave one behind another, walked letter by letter."""

from postroad.errors import BadBag
from postroad.kinds import is_tuple_of, is_whole
from postroad.spots import AtHome, AtHouse, NotYet, OnRoad


class Walk:
    # A letter's steps are tuples (left, by, house, due): it left at a turn by
    # a road and is in a house from the turn due on. The first step is by no
    # road and takes no turns, to the letter's own house at its own turn: so a
    # letter that has gone nowhere is no case of its own.
    def __init__(self, net, letters):
        self.net = net
        self.goals = []
        self.steps = []
        for letter in letters:
            self.take_in(letter)

    def take_in(self, letter):
        self.goals.append(letter[2])
        self.steps.append([(letter[1], None, letter[0], letter[1])])

    def send(self, bag):
        road = self.net.road(bag[1])
        for number in bag[2]:
            self.steps[number].append((bag[0], bag[1], road[1], bag[0] + road[2]))

    def goal(self, number):
        return self.goals[number]

    def last_house(self, number):
        return self.steps[number][-1][2]

    def last_turn(self, number):
        return self.steps[number][-1][3]

    def home_turn(self, number):
        if self.last_house(number) != self.goals[number]:
            return None
        return self.last_turn(number)

    def can_leave(self, number, house, turn):
        # A letter that is home stays there, even if a road goes on.
        return (
            self.home_turn(number) is None
            and self.last_house(number) == house
            and self.last_turn(number) <= turn
        )

    def spot_at(self, number, turn):
        begun = [step for step in self.steps[number] if step[0] <= turn]
        if not begun:
            return NotYet()
        last = begun[-1]
        if last[3] > turn:
            return OnRoad(last[1], last[3])
        if last[2] == self.goals[number]:
            return AtHome(last[3])
        return AtHouse(last[2], last[3])


def is_bag(thing):
    return (
        is_tuple_of(thing, 3)
        and is_whole(thing[0])
        and is_whole(thing[1])
        and isinstance(thing[2], tuple)
        and len(thing[2]) > 0
        and all([is_whole(number) for number in thing[2]])
    )


def are_rising_below(numbers, bound):
    ahead = -1
    for number in numbers:
        if not ahead < number < bound:
            return False
        ahead = number
    return True


def reason_against(walk, net, letters, ahead, thing):
    if not is_bag(thing):
        return "bag"
    if ahead is not None and thing[:2] <= ahead[:2]:
        return "order"
    roads = net.roads()
    if not 0 <= thing[1] < len(roads):
        return "road"
    road = roads[thing[1]]
    if len(thing[2]) > road[3]:
        return "room"
    if not are_rising_below(thing[2], len(letters)):
        return "letter"
    if not all([walk.can_leave(number, road[0], thing[0]) for number in thing[2]]):
        return "there"
    return None


def walk_of(net, letters, plan):
    walk = Walk(net, letters)
    ahead = None
    for place, thing in enumerate(plan):
        reason = reason_against(walk, net, letters, ahead, thing)
        if reason is not None:
            raise BadBag(place, reason)
        walk.send(thing)
        ahead = thing
    return walk


def arrivals(net, letters, plan):
    walk = walk_of(net, letters, plan)
    return [walk.home_turn(number) for number in range(len(letters))]


def spots_at(net, letters, plan, turn):
    walk = walk_of(net, letters, plan)
    return [walk.spot_at(number, turn) for number in range(len(letters))]
