"""Letters: each lies in a house from a turn on and has to come to a goal."""

from postroad.errors import NoLetter
from postroad.kinds import are_unlike_houses, is_tuple_of, is_whole_within

MOST_LETTERS = 40
MOST_TURN = 1000000000
MOST_APART = 30


def is_letter(houses, thing):
    return (
        is_tuple_of(thing, 3)
        and are_unlike_houses(houses, thing[0], thing[2])
        and is_whole_within(thing[1], 0, MOST_TURN)
    )


def turns_apart(letters):
    turns = [letter[1] for letter in letters]
    return max(turns, default=0) - min(turns, default=0)


def letters_of(net, some):
    houses = net.houses()
    for number, thing in enumerate(some):
        if not is_letter(houses, thing):
            raise NoLetter(number)
    if len(some) > MOST_LETTERS or turns_apart(some) > MOST_APART:
        raise NoLetter(None)
    return list(some)
