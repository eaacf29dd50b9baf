"""A day: letters come and roads change while the turns pass."""

from postroad.errors import NoLetter
from postroad.letters import letters_of
from postroad.plans import Walk
from postroad.runs import bags_at
from postroad.ways import shortest


class Day:
    def __init__(self, net, first):
        self.net = net
        self.present = first
        self.posted = []
        self.ways = shortest(net)
        self.shut_roads = {}
        self.walk = Walk(net, [])
        self.sent = []

    def now(self):
        return self.present

    def post(self, house, goal):
        letter = (house, self.present, goal)
        self.posted = letters_of(self.net, self.posted + [letter])
        self.walk.take_in(letter)
        return len(self.posted) - 1

    def set_way(self, house, goal, road):
        self.ways.set_way(house, goal, road)

    def drop_way(self, house, goal):
        self.ways.drop_way(house, goal)

    def shut(self, road):
        self.need_road(road)
        self.shut_roads[road] = True

    def reopen(self, road):
        self.need_road(road)
        self.shut_roads.pop(road, None)

    def pass_turn(self):
        going = [number for number in range(len(self.posted)) if self.walk.home_turn(number) is None]
        ready = bags_at(self.net, self.walk, going, self.ways, self.present)
        # A letter has one way from its house, so one that can't leave by a
        # shut road is in no other bag.
        bags = [bag for bag in ready if bag[1] not in self.shut_roads]
        for bag in bags:
            self.walk.send(bag)
        self.sent.extend(bags)
        self.present = self.present + 1
        return bags

    def log(self):
        return list(self.sent)

    def letters(self):
        return list(self.posted)

    def spot(self, number):
        if not 0 <= number < len(self.posted):
            raise NoLetter(number)
        # No bag of the present turn is in the walk yet.
        return self.walk.spot_at(number, self.present)

    def need_road(self, number):
        self.net.road(number)
