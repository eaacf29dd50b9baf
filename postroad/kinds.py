"""What a thing must be that is handed in: questions that several modules ask."""


def is_whole(thing):
    return isinstance(thing, int) and not isinstance(thing, bool)


def is_whole_within(thing, least, greatest):
    return is_whole(thing) and least <= thing <= greatest


def is_tuple_of(thing, length):
    return isinstance(thing, tuple) and len(thing) == length


def are_unlike_houses(houses, one, other):
    # Looked up in a list, not in a dict: what is handed in may be a list,
    # and a list can't be a key.
    return one in houses and other in houses and one != other
