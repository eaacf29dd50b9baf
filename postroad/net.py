"""A net: houses, and the roads that lead from house to house."""

from postroad.errors import NoHouse, NoNet, NoRoad
from postroad.kinds import are_unlike_houses, is_tuple_of, is_whole_within

MOST_HOUSES = 12
MOST_ROADS = 40
MOST_SIGNS = 8
MOST_TURNS = 9
MOST_ROOM = 1000000000


def is_name(thing):
    if not isinstance(thing, str) or not 1 <= len(thing) <= MOST_SIGNS:
        return False
    return all(["a" <= sign <= "z" for sign in thing])


def are_houses(things):
    if not isinstance(things, list) or len(things) > MOST_HOUSES:
        return False
    # The names are looked at first: of other things not all can be in a set.
    return all([is_name(thing) for thing in things]) and len(set(things)) == len(things)


def is_road(houses, thing):
    return (
        is_tuple_of(thing, 4)
        and are_unlike_houses(houses, thing[0], thing[1])
        and is_whole_within(thing[2], 1, MOST_TURNS)
        and is_whole_within(thing[3], 1, MOST_ROOM)
    )


def are_roads(houses, things):
    if not isinstance(things, list) or len(things) > MOST_ROADS:
        return False
    return all([is_road(houses, thing) for thing in things])


def is_shorter_by(road, found):
    if road[0] not in found:
        return False
    return road[1] not in found or found[road[0]] + road[2] < found[road[1]]


def least_turns_from(roads, house):
    found = {house: 0}
    changed = True
    # Each road takes a turn at least, so no round makes a way shorter, and
    # this ends.
    while changed:
        changed = False
        for road in roads:
            if is_shorter_by(road, found):
                found[road[1]] = found[road[0]] + road[2]
                changed = True
    return found


class Net:
    def __init__(self, houses, roads):
        if not are_houses(houses):
            raise NoNet("houses are a list of 0 to 12 names, each once")
        if not are_roads(houses, roads):
            raise NoNet("roads are a list of 0 to 40 tuples (from, to, turns, room)")
        self.kept_houses = list(houses)
        self.kept_roads = list(roads)

    def houses(self):
        return list(self.kept_houses)

    def roads(self):
        return list(self.kept_roads)

    def road(self, number):
        # Asked ahead of the index, which would count from the end below 0.
        if not 0 <= number < len(self.kept_roads):
            raise NoRoad("no road of the net has this number")
        return self.kept_roads[number]

    def out_of(self, house):
        self.need_house(house)
        return [number for number, road in enumerate(self.kept_roads) if road[0] == house]

    def into(self, house):
        self.need_house(house)
        return [number for number, road in enumerate(self.kept_roads) if road[1] == house]

    def far(self, house, goal):
        self.need_house(house)
        self.need_house(goal)
        return least_turns_from(self.kept_roads, house).get(goal)

    def need_house(self, house):
        if house not in self.kept_houses:
            raise NoHouse("no house of the net has this name")
