"""What floors have, and floors turned, mirrored and put together."""

from cellways.errors import NoFit
from cellways.floors import LONGEST, WALL, height_at, need_open, open_spots, open_spots_beside


def heights_in(floor):
    counts = {}
    for spot in open_spots(floor):
        height = height_at(floor, spot)
        counts[height] = counts.get(height, 0) + 1
    return sorted(counts.items())


def walls_in(floor):
    return sum([row.count(WALL) for row in floor])


# Of two spots beside one another.
def share_side(one, other):
    return one[0] == other[0] or one[1] == other[1]


def is_peak(floor, spot):
    sides = [other for other in open_spots_beside(floor, spot) if share_side(spot, other)]
    return all([height_at(floor, other) <= height_at(floor, spot) for other in sides])


def peaks(floor):
    return [spot for spot in open_spots(floor) if is_peak(floor, spot)]


def turned_floor(floor):
    upwards = list(reversed(floor))
    rows = []
    for column in range(len(floor[0])):
        rows.append("".join([signs[column] for signs in upwards]))
    return tuple(rows)


def mirrored_floor(floor):
    return tuple([signs[::-1] for signs in floor])


def spot_turned(floor, spot):
    need_open(floor, spot)
    return (spot[1], len(floor) - 1 - spot[0])


def spot_mirrored(floor, spot):
    need_open(floor, spot)
    return (spot[0], len(floor[0]) - 1 - spot[1])


def set_below(one, other):
    if len(one[0]) != len(other[0]):
        raise NoFit("the floors have not as many columns")
    if len(one) + len(other) > LONGEST:
        raise NoFit("there were more than 12 rows")
    return one + other


def set_beside(one, other):
    if len(one) != len(other):
        raise NoFit("the floors have not as many rows")
    if len(one[0]) + len(other[0]) > LONGEST:
        raise NoFit("there were more than 12 columns")
    return tuple([left + right for left, right in zip(one, other)])
