"""Fields that lead to the nearest of several goals."""

from cellways.errors import NoSpot
from cellways.floors import need_open, steps_from
from cellways.ways import spread_from, spread_to


def need_goals(floor, goals):
    if len(goals) == 0:
        raise NoSpot("there are no goals")
    for goal in goals:
        need_open(floor, goal)


def spread_to_goals(floor, walker, goals):
    need_goals(floor, goals)
    return spread_to(floor, walker, goals)


# The first that fits is the least, since steps are told rising.
# None fits at a goal: it costs 0, which is less than any step.
def least_onward(floor, walker, reached, spot):
    for other, cost in steps_from(floor, walker, spot):
        if reached[spot][0] == cost + reached[other][0]:
            return other
    return None


def field(floor, walker, goals):
    reached = spread_to_goals(floor, walker, goals)
    return [(spot, reached[spot][0], least_onward(floor, walker, reached, spot)) for spot in sorted(reached)]


def lead(floor, walker, goals, start):
    need_open(floor, start)
    reached = spread_to_goals(floor, walker, goals)
    if start not in reached:
        return None
    way = []
    spot = start
    while spot is not None:
        way.append(spot)
        spot = least_onward(floor, walker, reached, spot)
    return way


def nearest_goals(floor, walker, goals, start):
    need_goals(floor, goals)
    reached = spread_from(floor, walker, start)
    found = [goal for goal in sorted(set(goals)) if goal in reached]
    least = min([reached[goal][0] for goal in found], default=None)
    return [goal for goal in found if reached[goal][0] == least]
