"""The runs of a way, and of the ways that cost least one with the fewest turns."""

from cellways.errors import NoWay
from cellways.floors import is_open, need_open, need_way, step_cost, steps_to
from cellways.ways import spread, spread_to, traced

DIRECTIONS = ("n", "s", "w", "e", "ne", "nw", "se", "sw")


# Of two spots beside one another.
def direction_of(one, other):
    along = "n" if other[0] < one[0] else "s"
    across = "w" if other[1] < one[1] else "e"
    return (along if other[0] != one[0] else "") + (across if other[1] != one[1] else "")


def spot_beside(spot, direction):
    row = spot[0] + direction.count("s") - direction.count("n")
    column = spot[1] + direction.count("e") - direction.count("w")
    return (row, column)


def runs_of(floor, walker, way):
    need_way(floor, walker, way)
    runs = []
    for one, other in zip(way, way[1:]):
        direction = direction_of(one, other)
        if len(runs) > 0 and runs[-1][0] == direction:
            runs[-1] = (direction, runs[-1][1] + 1)
        else:
            runs.append((direction, 1))
    return runs


def after_step(floor, walker, spot, direction):
    other = spot_beside(spot, direction)
    if not is_open(floor, other) or step_cost(floor, walker, spot, other) is None:
        raise NoWay("no step leads on in this direction")
    return other


# Refused at the first step that is none: a run may tell more steps than could ever be gone through.
def way_by(floor, walker, start, runs):
    need_open(floor, start)
    way = [start]
    for direction, how_many in runs:
        if direction not in DIRECTIONS:
            raise NoWay("this is no direction")
        for step in range(how_many):
            way.append(after_step(floor, walker, way[-1], direction))
    return way


# The spots from which a step leads to this one on a way to the goal that costs least.
def least_before(floor, walker, reached, spot):
    before = []
    for other, cost in steps_to(floor, walker, spot):
        if reached[other][0] == cost + reached[spot][0]:
            before.append(other)
    return before


# A heading is a spot and the direction in which the way leaves it, None at the goal.
def headings_before(floor, walker, reached, heading):
    before = []
    for other in least_before(floor, walker, reached, heading[0]):
        direction = direction_of(other, heading[0])
        turns = 0 if heading[1] is None or heading[1] == direction else 1
        before.append(((other, direction), turns))
    return before


# Spread once more over the least ways alone, where each turn is all that costs.
def straightest(floor, walker, start, goal):
    need_open(floor, start)
    reached = spread_to(floor, walker, [goal])
    if start not in reached:
        return None
    headings = spread([(goal, None)], lambda heading: headings_before(floor, walker, reached, heading))
    leaving = min([heading for heading in headings if heading[0] == start], key=lambda heading: headings[heading][0])
    way = [heading[0] for heading in traced(headings, leaving)]
    return (reached[start][0], headings[leaving][0], way)
