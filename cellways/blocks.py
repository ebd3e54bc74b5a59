"""Blocks of a floor, their gates, and ways found by gates alone."""

from cellways.floors import need_open, open_spots, steps_from
from cellways.sizes import need_size
from cellways.ways import spread, traced


def block_of(spot, size):
    return (spot[0] // size, spot[1] // size)


def steps_within(floor, walker, size, spot):
    block = block_of(spot, size)
    return [step for step in steps_from(floor, walker, spot) if block_of(step[0], size) == block]


def steps_out(floor, walker, size, spot):
    block = block_of(spot, size)
    return [step for step in steps_from(floor, walker, spot) if block_of(step[0], size) != block]


def gates(floor, walker, size):
    need_size(size)
    return [spot for spot in open_spots(floor) if len(steps_out(floor, walker, size, spot)) > 0]


def hops_from(floor, walker, size, spot, stops):
    reached = spread([spot], lambda place: steps_within(floor, walker, size, place))
    within = [(other, reached[other][0]) for other in reached if other != spot]
    return [hop for hop in within + steps_out(floor, walker, size, spot) if hop[0] in stops]


def hops(floor, walker, size):
    stops = gates(floor, walker, size)
    told = []
    for gate in stops:
        told.extend([(gate, hop[0], hop[1]) for hop in hops_from(floor, walker, size, gate, stops)])
    return sorted(told)


# The goal need not be a gate: no least way goes on behind it, so it is never a stop between.
def by_gates(floor, walker, size, start, goal):
    need_size(size)
    need_open(floor, start)
    need_open(floor, goal)
    stops = gates(floor, walker, size) + [goal]
    reached = spread([start], lambda place: hops_from(floor, walker, size, place, stops))
    if goal not in reached:
        return None
    return (reached[goal][0], list(reversed(traced(reached, goal))))
