"""Spots: where a letter is at a turn."""


class Spot:
    pass


class NotYet(Spot):
    def line(self):
        return "not yet"


class AtHouse(Spot):
    def __init__(self, at, since):
        self.at = at
        self.since = since

    def line(self):
        return "at " + self.at + " since " + str(self.since)


class OnRoad(Spot):
    def __init__(self, by, due):
        self.by = by
        self.due = due

    def line(self):
        return "on " + str(self.by) + " until " + str(self.due)


class AtHome(Spot):
    def __init__(self, since):
        self.since = since

    def line(self):
        return "home since " + str(self.since)
