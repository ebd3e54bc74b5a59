"""Least ways, and the papers that show that none costs less."""

from cellways.floors import is_open, is_whole, need_open, steps_from, steps_to


# Told for each spot that is reached: the least cost from any of the starts, and the spot from which it was reached.
# The cheapest spot that waits can't become cheaper, since no step costs less than 0.
def spread(starts, steps):
    reached = {}
    waiting = {}
    for start in starts:
        waiting[start] = (0, None)
    while len(waiting) > 0:
        spot = min(waiting, key=lambda waiter: waiting[waiter][0])
        reached[spot] = waiting.pop(spot)
        for other, cost in steps(spot):
            together = reached[spot][0] + cost
            if other not in reached and (other not in waiting or together < waiting[other][0]):
                waiting[other] = (together, spot)
    return reached


def spread_from(floor, walker, start):
    need_open(floor, start)
    return spread([start], lambda spot: steps_from(floor, walker, spot))


def spread_to(floor, walker, goals):
    for goal in goals:
        need_open(floor, goal)
    return spread(goals, lambda spot: steps_to(floor, walker, spot))


def rising_costs(reached):
    return [(spot, reached[spot][0]) for spot in sorted(reached)]


def distances_from(floor, walker, start):
    return rising_costs(spread_from(floor, walker, start))


def distances_to(floor, walker, goal):
    return rising_costs(spread_to(floor, walker, [goal]))


# From one that is reached back to the start from which it was.
def traced(reached, place):
    trace = [place]
    while reached[trace[-1]][1] is not None:
        trace.append(reached[trace[-1]][1])
    return trace


# Spread from the goal, so that each spot knows the one that comes behind it on the way.
def least_way(floor, walker, start, goal):
    need_open(floor, start)
    reached = spread_to(floor, walker, [goal])
    if start not in reached:
        return None
    return (reached[start][0], traced(reached, start))


def is_entry(floor, thing):
    if not isinstance(thing, tuple) or len(thing) != 2:
        return False
    return is_open(floor, thing[0]) and is_whole(thing[1]) and thing[1] >= 0


def has_rising_entries(floor, thing):
    if not isinstance(thing, list) or not all([is_entry(floor, entry) for entry in thing]):
        return False
    return all([one[0] < other[0] for one, other in zip(thing, thing[1:])])


# A goal that is not open needs no look of its own: it can't stand among the entries.
def is_paper(floor, walker, goal, thing):
    if not has_rising_entries(floor, thing):
        return False
    numbers = dict(thing)
    if goal not in numbers or numbers[goal] != 0:
        return False
    return all([keeps_steps_to(floor, walker, numbers, spot) for spot in numbers])


def keeps_steps_to(floor, walker, numbers, spot):
    for other, cost in steps_to(floor, walker, spot):
        if other not in numbers or numbers[other] > cost + numbers[spot]:
            return False
    return True
