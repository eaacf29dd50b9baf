"""Letters of several goals: a turn ahead of which no plan has all home, and a plan with the turn at which it has."""

from postroad.flows import Flow, plan_of
from postroad.least import least_turn, need_letters, need_roads_home
from postroad.plans import arrivals
from postroad.runs import run
from postroad.ways import shortest


def groups_of(net, letters):
    # Tuples (least turn, numbers), one for the letters of each goal.
    numbers_of = {}
    for number, letter in enumerate(letters):
        numbers_of.setdefault(letter[2], []).append(number)
    return [(least_turn(net, [letters[number] for number in numbers]), numbers) for numbers in numbers_of.values()]


def plan_by(net, letters, numbers, taken, turn):
    flow = Flow(net, letters, turn, taken)
    if len(flow.send_those(letters, numbers)) < len(numbers):
        return None
    return plan_of(net, letters, numbers, flow.loads())


def soonest_plan(net, letters, group, taken, last):
    # None where the group can't be home by the turn last with the room left.
    numbers = group[1]
    found = plan_by(net, letters, numbers, taken, last)
    low = group[0]
    high = last
    while found is not None and low < high:
        middle = (low + high) // 2
        plan = plan_by(net, letters, numbers, taken, middle)
        if plan is None:
            low = middle + 1
        else:
            found = plan
            high = middle
    return found


def merged(plans):
    together = {}
    for plan in plans:
        for bag in plan:
            together.setdefault((bag[0], bag[1]), []).extend(bag[2])
    return [(leaving[0], leaving[1], tuple(sorted(together[leaving]))) for leaving in sorted(together)]


def plan_goal_by_goal(net, letters, groups, last):
    # The goal that needs the latest turn chooses first; each other one goes
    # with the room that is left. None where one can't be home by the turn last.
    taken = {}
    plans = []
    for group in sorted(groups, reverse=True):
        plan = soonest_plan(net, letters, group, taken, last)
        if plan is None:
            return None
        for bag in plan:
            taken[(bag[1], bag[0])] = taken.get((bag[1], bag[0]), 0) + len(bag[2])
        plans.append(plan)
    return merged(plans)


def bounds(net, letters):
    need_letters(letters)
    need_roads_home(net, letters)
    groups = groups_of(net, letters)
    low = max([group[0] for group in groups])
    plan = run(net, letters, shortest(net))
    high = max(arrivals(net, letters, plan))
    if low < high:
        sooner = plan_goal_by_goal(net, letters, groups, high - 1)
        if sooner is not None:
            plan = sooner
            high = max(arrivals(net, letters, plan))
    return (low, high, plan)
