"""Runs: letters that go by a table of ways, turn by turn."""

from postroad.errors import NoWay
from postroad.plans import Walk


def has_route(letter, ways):
    try:
        ways.route(letter[0], letter[2])
    except NoWay:
        return False
    return True


def left_out(letters, ways):
    return [number for number, letter in enumerate(letters) if not has_route(letter, ways)]


def queues_at(walk, going, ways, turn):
    queues = {}
    for number in going:
        came = walk.last_turn(number)
        if came <= turn:
            road = ways.way(walk.last_house(number), walk.goal(number))
            if road is not None:
                queues.setdefault(road, []).append((came, number))
    return queues


def bags_at(net, walk, going, ways, turn):
    queues = queues_at(walk, going, ways, turn)
    bags = []
    for road in sorted(queues):
        room = net.road(road)[3]
        chosen = [number for came, number in sorted(queues[road])[:room]]
        bags.append((turn, road, tuple(sorted(chosen))))
    return bags


def run(net, letters, ways):
    walk = Walk(net, letters)
    going = [number for number, letter in enumerate(letters) if has_route(letter, ways)]
    plan = []
    turn = -1
    while going:
        # Turns at which no letter lies in a house are passed over.
        turn = max(turn + 1, min([walk.last_turn(number) for number in going]))
        for bag in bags_at(net, walk, going, ways, turn):
            walk.send(bag)
            plan.append(bag)
        going = [number for number in going if walk.home_turn(number) is None]
    return plan
