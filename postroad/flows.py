"""Flows: the most letters of one goal that can be home by a turn, and a paper that shows it."""

from postroad.errors import ManyGoals
from postroad.plans import Walk


class Flow:
    # Letters of one goal need not be told apart: it is enough to count how
    # many go on each lane at each turn. A lane is a road, or a stay, which
    # leads from a house to itself in one turn. A place is a tuple (house,
    # turn). A step is a tuple (lane, turn, change, place): one letter more, or
    # one fewer, leaves on the lane at the turn, and so the place is come to.
    # What is taken, a dict from (road, turn) to a number of letters, is room
    # that other letters have: the flow goes round it.
    def __init__(self, net, letters, turn, taken):
        self.until = turn
        self.taken = dict(taken)
        self.road_count = len(net.roads())
        # While a letter is looked at that doesn't go yet, fewer than all
        # letters go: so there is always room to stay.
        self.lanes = net.roads() + [(house, house, 1, len(letters)) for house in net.houses()]
        self.outward = {}
        self.inward = {}
        for house in net.houses():
            self.outward[house] = [number for number, lane in enumerate(self.lanes) if lane[0] == house]
            self.inward[house] = [number for number, lane in enumerate(self.lanes) if lane[1] == house]
        self.used = {}
        self.closed = {}

    def load(self, going):
        return self.taken.get(going, 0) + self.used.get(going, 0)

    def steps_onward(self, place):
        steps = []
        for number in self.outward[place[0]]:
            lane = self.lanes[number]
            there = place[1] + lane[2]
            if there <= self.until and self.load((number, place[1])) < lane[3]:
                steps.append((number, place[1], 1, (lane[1], there)))
        return steps

    def steps_back(self, place):
        # A letter that comes to this place doesn't take its lane here, since
        # the one that is looked at goes on in its stead; it is to find another
        # way from where the lane begins.
        steps = []
        for number in self.inward[place[0]]:
            lane = self.lanes[number]
            left = place[1] - lane[2]
            if self.used.get((number, left), 0) > 0:
                steps.append((number, left, -1, (lane[0], left)))
        return steps

    def search(self, start, goal):
        # Tells the place at the goal that was come to, or None, and for each
        # place come to the step that led there, with the place it came from.
        reached = {start: None}
        places = [start]
        looked_at = 0
        while looked_at < len(places):
            place = places[looked_at]
            looked_at = looked_at + 1
            for step in self.steps_onward(place) + self.steps_back(place):
                if step[3] not in reached and step[3] not in self.closed:
                    reached[step[3]] = (step[0], step[1], step[2], place)
                    places.append(step[3])
                    if step[3][0] == goal:
                        return (step[3], reached)
        return (None, reached)

    def send_home(self, letter):
        found = self.search((letter[0], letter[1]), letter[2])
        place = found[0]
        reached = found[1]
        if place is None:
            # No way home is left from these places, and none that is found
            # later comes through one of them: so they stay closed.
            self.closed.update(reached)
            return False
        while reached[place] is not None:
            step = reached[place]
            self.used[step[:2]] = self.used.get(step[:2], 0) + step[2]
            place = step[3]
        return True

    def send_those(self, letters, numbers):
        sent = []
        for number in numbers:
            if letters[number][1] <= self.until and self.send_home(letters[number]):
                sent.append(number)
        return sent

    def loads(self):
        # Tuples (turn, road, how many letters), in the order of a plan.
        return sorted([
            (going[1], going[0], count) for going, count in self.used.items()
            if going[0] < self.road_count and count > 0
        ])

    def paper(self):
        # A letter can stay wherever it has come to, so of each house all
        # places from the first closed one on are closed: a cut of full roads.
        paper = {}
        for house in self.outward:
            paper[house] = min([place[1] for place in self.closed if place[0] == house], default=None)
        return paper


def need_one_goal(letters):
    if len(set([letter[2] for letter in letters])) > 1:
        raise ManyGoals("the letters have several goals")


def plan_of(net, letters, sent, loads):
    walk = Walk(net, letters)
    plan = []
    for load in loads:
        house = net.road(load[1])[0]
        lying = [number for number in sent if walk.can_leave(number, house, load[0])]
        bag = (load[0], load[1], tuple(lying[:load[2]]))
        walk.send(bag)
        plan.append(bag)
    return plan


def most(net, letters, turn):
    need_one_goal(letters)
    flow = Flow(net, letters, turn, {})
    sent = flow.send_those(letters, list(range(len(letters))))
    return (len(sent), plan_of(net, letters, sent, flow.loads()), flow.paper())
