"""The least turn by which all letters of one goal can be home, and a paper for the turn before."""

from postroad.errors import CutOff, NoLetter
from postroad.flows import most, need_one_goal
from postroad.net import least_turns_from


def need_letters(letters):
    if not letters:
        raise NoLetter(None)


def need_roads_home(net, letters):
    roads = net.roads()
    for number, letter in enumerate(letters):
        led_to = least_turns_from(roads, letter[0])
        if letter[2] not in led_to:
            raise CutOff(number, [house for house in net.houses() if house in led_to])


def least_turn(net, letters):
    roads_take = [net.far(letter[0], letter[2]) for letter in letters]
    low = max([letter[1] + turns for letter, turns in zip(letters, roads_take)])
    # Run by the shortest table, all are home by then (point 15).
    high = max([letter[1] for letter in letters]) + max(roads_take) + len(letters) - 1
    while low < high:
        middle = (low + high) // 2
        if most(net, letters, middle)[0] == len(letters):
            high = middle
        else:
            low = middle + 1
    return low


def least(net, letters):
    need_letters(letters)
    need_one_goal(letters)
    need_roads_home(net, letters)
    turn = least_turn(net, letters)
    return (turn, most(net, letters, turn)[1], most(net, letters, turn - 1)[2])
