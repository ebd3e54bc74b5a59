"""Floors, walkers, the steps from spot to spot, and ways."""

from cellways.errors import NoSign, NoSpot, NoWay

WALL = "#"
SIGNS = "#0123456789"
LONGEST = 12
HIGHEST_CLIMB = 9
HIGHEST_UP = 3
STRAIGHT_COST = 2
SLANTING_COST = 3


# A truth is an int to Python, and equal to 0 or 1: it has to be told apart by hand.
def is_whole(thing):
    return isinstance(thing, int) and not isinstance(thing, bool)


# The length is asked for, because "in" finds "" and "01" among the signs, too.
def is_sign(thing):
    return isinstance(thing, str) and len(thing) == 1 and thing in SIGNS


def is_row(thing):
    if not isinstance(thing, str) or not 1 <= len(thing) <= LONGEST:
        return False
    return all([is_sign(sign) for sign in thing])


def is_floor(thing):
    if not isinstance(thing, tuple) or not 1 <= len(thing) <= LONGEST:
        return False
    if not all([is_row(row) for row in thing]):
        return False
    return all([len(row) == len(thing[0]) for row in thing])


def is_walker(thing):
    if not isinstance(thing, tuple) or len(thing) != 3:
        return False
    if not isinstance(thing[0], bool) or not is_whole(thing[1]) or not is_whole(thing[2]):
        return False
    return 0 <= thing[1] <= HIGHEST_CLIMB and 0 <= thing[2] <= HIGHEST_UP


def is_spot(thing):
    return isinstance(thing, tuple) and len(thing) == 2 and is_whole(thing[0]) and is_whole(thing[1])


def is_on_floor(floor, spot):
    return 0 <= spot[0] < len(floor) and 0 <= spot[1] < len(floor[spot[0]])


# Takes any thing, so that it can stand first wherever things are looked into.
def is_open(floor, thing):
    return is_spot(thing) and is_on_floor(floor, thing) and floor[thing[0]][thing[1]] != WALL


# The words don't show the spot: Python refuses to write out numbers of very many digits.
def need_open(floor, spot):
    if not is_open(floor, spot):
        raise NoSpot("the spot is not on the floor or a wall")


def need_on_floor(floor, spot):
    if not (is_spot(spot) and is_on_floor(floor, spot)):
        raise NoSpot("the spot is not on the floor")


def need_sign(sign):
    if not is_sign(sign):
        raise NoSign("this is no sign of a floor")


# Of a spot that is on the floor.
def with_sign(floor, spot, sign):
    signs = floor[spot[0]]
    changed = signs[:spot[1]] + sign + signs[spot[1] + 1:]
    return floor[:spot[0]] + (changed,) + floor[spot[0] + 1:]


def open_spots(floor):
    spots = []
    for row, signs in enumerate(floor):
        for column, sign in enumerate(signs):
            if sign != WALL:
                spots.append((row, column))
    return spots


def height_at(floor, spot):
    need_open(floor, spot)
    return int(floor[spot[0]][spot[1]])


# Rising, because rows and columns are walked upwards.
def open_spots_beside(floor, spot):
    beside = []
    for row in range(spot[0] - 1, spot[0] + 2):
        for column in range(spot[1] - 1, spot[1] + 2):
            if (row, column) != spot and is_open(floor, (row, column)):
                beside.append((row, column))
    return beside


def are_beside(one, other):
    return one != other and abs(one[0] - other[0]) <= 1 and abs(one[1] - other[1]) <= 1


def has_open_corners(floor, one, other):
    return is_open(floor, (one[0], other[1])) and is_open(floor, (other[0], one[1]))


# Of two open spots; None where no step leads from the one to the other.
def step_cost(floor, walker, one, other):
    if not are_beside(one, other):
        return None
    is_slanting = one[0] != other[0] and one[1] != other[1]
    if is_slanting and not (walker[0] and has_open_corners(floor, one, other)):
        return None
    rise = height_at(floor, other) - height_at(floor, one)
    if abs(rise) > walker[1]:
        return None
    flat_cost = SLANTING_COST if is_slanting else STRAIGHT_COST
    return flat_cost + walker[2] * max(rise, 0)


def steps_from(floor, walker, spot):
    need_open(floor, spot)
    steps = []
    for other in open_spots_beside(floor, spot):
        cost = step_cost(floor, walker, spot, other)
        if cost is not None:
            steps.append((other, cost))
    return steps


# Where a step leads there is one back, since all but the cost is asked alike of both spots.
def steps_to(floor, walker, spot):
    return [(step[0], step_cost(floor, walker, step[0], spot)) for step in steps_from(floor, walker, spot)]


# For each open spot all those to which a step leads from it: for many looks at one floor.
def steps_over(floor, walker):
    onward = {}
    for spot in open_spots(floor):
        onward[spot] = [step[0] for step in steps_from(floor, walker, spot)]
    return onward


def is_list_of_open_spots(floor, thing):
    if not isinstance(thing, list) or len(thing) == 0:
        return False
    return all([is_open(floor, spot) for spot in thing])


def is_way(floor, walker, thing):
    return is_list_of_open_spots(floor, thing) and None not in costs_along(floor, walker, thing)


def costs_along(floor, walker, spots):
    return [step_cost(floor, walker, one, other) for one, other in zip(spots, spots[1:])]


def need_way(floor, walker, thing):
    if not is_way(floor, walker, thing):
        raise NoWay("this is no way of the walker over the floor")


def cost_of(floor, walker, way):
    need_way(floor, walker, way)
    return sum(costs_along(floor, walker, way))
