"""All refusals of the program, one class for each."""

# The words of an error never hold what was handed in: a whole number of some
# thousand figures can't be written, and writing it would fail in another way.


class RoadError(ValueError):
    pass


class NoNet(RoadError):
    pass


class NoHouse(RoadError):
    pass


class NoRoad(RoadError):
    pass


class NoLetter(RoadError):
    def __init__(self, number):
        RoadError.__init__(self, "no such letter, or no letters")
        self.number = number


class BadBag(RoadError):
    def __init__(self, place, reason):
        RoadError.__init__(self, "a bag of the plan is amiss")
        self.place = place
        self.reason = reason


class NoWay(RoadError):
    def __init__(self, reason, seen):
        RoadError.__init__(self, "the ways don't lead to the goal")
        self.reason = reason
        self.seen = list(seen)


class ManyGoals(RoadError):
    pass


class CutOff(RoadError):
    def __init__(self, number, seen):
        RoadError.__init__(self, "no roads lead from a letter's house to its goal")
        self.number = number
        self.seen = list(seen)


class NoText(RoadError):
    pass


class NoRow(RoadError):
    pass


class NoDay(RoadError):
    pass
