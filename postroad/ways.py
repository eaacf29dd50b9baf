"""Ways: at a house, the road that is taken to a goal."""

from postroad.errors import NoHouse, NoRoad, NoWay
from postroad.kinds import are_unlike_houses
from postroad.net import least_turns_from


class Ways:
    def __init__(self, net):
        self.net = net
        self.told = {}

    def set_way(self, house, goal, road):
        self.need_pair(house, goal)
        if road not in self.net.out_of(house):
            raise NoRoad("no road out of the house has this number")
        self.told[(house, goal)] = road

    def drop_way(self, house, goal):
        self.need_pair(house, goal)
        self.told.pop((house, goal), None)

    def way(self, house, goal):
        self.need_pair(house, goal)
        return self.told.get((house, goal))

    def route(self, house, goal):
        self.net.need_house(house)
        self.net.need_house(goal)
        taken = []
        seen = [house]
        while seen[-1] != goal:
            number = self.told.get((seen[-1], goal))
            if number is None:
                raise NoWay("none", seen)
            come_to = self.net.road(number)[1]
            if come_to in seen:
                raise NoWay("round", seen + [come_to])
            taken.append(number)
            seen.append(come_to)
        return taken

    def pairs(self):
        return sorted([(pair[0], pair[1], road) for pair, road in self.told.items()])

    def need_pair(self, house, goal):
        if not are_unlike_houses(self.net.houses(), house, goal):
            raise NoHouse("a way is told for two unlike houses of the net")


def begins_shortest(road, far_from, goal):
    behind = far_from[road[1]].get(goal)
    return behind is not None and road[2] + behind == far_from[road[0]][goal]


def shortest(net):
    roads = net.roads()
    far_from = {}
    for house in net.houses():
        far_from[house] = least_turns_from(roads, house)
    ways = Ways(net)
    for house in net.houses():
        for goal in far_from[house]:
            if goal != house:
                fitting = [number for number in net.out_of(house) if begins_shortest(roads[number], far_from, goal)]
                ways.set_way(house, goal, min(fitting))
    return ways
