"""Ways of walkers that take up squares."""

from cellways.errors import NoSize
from cellways.floors import LONGEST, WALL, is_open, is_whole, need_open
from cellways.ways import least_way


def need_size(size):
    if not is_whole(size) or not 1 <= size <= LONGEST:
        raise NoSize("the size is not a whole number from 1 to 12")


# The spots that a square with one row more has besides.
def rim_of(spot, rows):
    below = [(spot[0] + rows, spot[1] + column) for column in range(rows + 1)]
    beside = [(spot[0] + row, spot[1] + rows) for row in range(rows)]
    return below + beside


def clearance(floor, spot):
    need_open(floor, spot)
    rows = 1
    while all([is_open(floor, other) for other in rim_of(spot, rows)]):
        rows += 1
    return rows


def shrunk_sign(floor, size, spot):
    sign = floor[spot[0]][spot[1]]
    if sign != WALL and clearance(floor, spot) < size:
        return WALL
    return sign


def shrunk(floor, size):
    need_size(size)
    rows = []
    for row in range(len(floor)):
        rows.append("".join([shrunk_sign(floor, size, (row, column)) for column in range(len(floor[row]))]))
    return tuple(rows)


def great_way(floor, walker, size, start, goal):
    return least_way(shrunk(floor, size), walker, start, goal)
