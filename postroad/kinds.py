"""What a thing must be that is handed in: questions that several modules ask."""


def is_whole(thing):
    return isinstance(thing, int) and not isinstance(thing, bool)


def is_whole_within(thing, least, greatest):
    return is_whole(thing) and least <= thing <= greatest


def is_tuple_of(thing, length):
    return isinstance(thing, tuple) and len(thing) == length


def is_written_number(text):
    # Ten figures are enough for all turns and rooms. The signs are looked at
    # one by one: isdigit takes figures of other scripts, too.
    if not 1 <= len(text) <= 10 or (text[0] == "0" and text != "0"):
        return False
    return all(["0" <= sign <= "9" for sign in text])


def are_unlike_houses(houses, one, other):
    # Looked up in a list, not in a dict: what is handed in may be a list,
    # and a list can't be a key.
    return one in houses and other in houses and one != other
