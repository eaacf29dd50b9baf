"""Texts: a plan written as a text, and read again."""

from postroad.errors import NoText
from postroad.kinds import is_written_number


def show_bag(bag):
    numbers = " ".join([str(number) for number in bag[2]])
    return str(bag[0]) + " " + str(bag[1]) + ": " + numbers


def show_plan(plan):
    return "; ".join([show_bag(bag) for bag in plan])


def read_number(word):
    if not is_written_number(word):
        raise NoText("a number is written with one to ten figures, without noughts ahead")
    return int(word)


def read_bag(text):
    words = text.split(" ")
    if len(words) < 3 or not words[1].endswith(":"):
        raise NoText("a bag is a turn, a road with a colon, and a letter's number at least")
    numbers = tuple([read_number(word) for word in words[2:]])
    return (read_number(words[0]), read_number(words[1][:-1]), numbers)


def read_plan(text):
    # Split, the text without signs would tell one bag without signs.
    if text == "":
        return []
    return [read_bag(part) for part in text.split("; ")]
