"""What the tests share: a second reckoning, written from the document alone, and things to hand in."""

from itertools import product

BIG = 10 ** 5000


def nested(depth, as_tuple):
    thing = 0
    for _ in range(depth):
        thing = (thing,) if as_tuple else [thing]
    return thing


# Of every kind that a function of "any thing" may get; none is a floor, a walker, a way or a paper.
THINGS = [
    0, 1, -1, 7, BIG, -BIG, True, False, None, "", "0", "#", "00", "way", "0,0",
    [], (), [[]], [()], ([],), ((),), [None], (None,), [True], (True,), [0], (0,), [""], ("",), ["0"],
    [0, 0], (0, 0), [[0, 0]], [(0,)], [(0, 0, 0)], [(0, "0")], [("0", 0)], [(None, None)], [((0, 0),)],
    [(True, False)], [(False, False)], [(0, False)], [(False, 0)], [([0], 0)], [((0, 0), (0, 0))],
    [(BIG, 0)], [(0, BIG)], [(-BIG, 0)], [(-1, 0)], [(0, -1)], ["00"], [0, (0, 0)], [(0, 0), 0],
    [(0, 0), None], [(0, 0), [0, 0]], ((0, 0),), ((0, 0), (0, 1)), [[0, 0], [0, 1]], [[(0, 0)]],
    (False,), (False, 0), (0, 0, 0), (None, 0, 0), ("", 0, 0), (False, "0", 0), (False, 0, None),
    (False, [0], 0), (False, 0, (0,)), [False, 0, 0], ((False, 0, 0),), (False, BIG, 0), (False, 0, -BIG),
    nested(10, False), nested(10, True), nested(11, False), nested(11, True),
]

WALKERS = [(slants, climb, up) for slants in (False, True) for climb in (0, 1, 3, 9) for up in (0, 1, 3)]


def heights_of(floor):
    return {
        (row, column): "0123456789".index(sign)
        for row, signs in enumerate(floor)
        for column, sign in enumerate(signs)
        if sign != "#"
    }


def all_steps(floor, walker):
    """A dict from (spot, spot) to the cost, for all steps of a walker."""
    slants, climb, up = walker
    heights = heights_of(floor)
    steps = {}
    for one, other in product(heights, heights):
        far = (one[0] - other[0]) ** 2 + (one[1] - other[1]) ** 2
        more = heights[other] - heights[one]
        corners = [(one[0], other[1]), (other[0], one[1])]
        straight = far == 1
        slanting = far == 2 and slants and all(corner in heights for corner in corners)
        if (straight or slanting) and -climb <= more <= climb:
            steps[one, other] = (2 if straight else 3) + (up * more if more > 0 else 0)
    return steps


def all_costs(floor, walker):
    """A dict from (start, goal) to the least cost: each step is tried until nothing gets cheaper."""
    steps = all_steps(floor, walker)
    costs = {(spot, spot): 0 for spot in heights_of(floor)}
    changed = True
    while changed:
        changed = False
        for (start, middle), cost in list(costs.items()):
            for (one, other), more in steps.items():
                if one == middle and cost + more < costs.get((start, other), cost + more + 1):
                    costs[start, other] = cost + more
                    changed = True
    return costs


def least_ways(floor, walker, start, goal, costs):
    """All ways from the start to the goal that cost least, by trying each step; costs are those of all_costs."""
    steps = all_steps(floor, walker)
    ended, begun = [], [[start]]
    while begun:
        way = begun.pop()
        if way[-1] == goal:
            ended.append(way)
        for (one, other), cost in steps.items():
            if one == way[-1] and (other, goal) in costs and costs[one, goal] == cost + costs[other, goal]:
                begun.append(way + [other])
    return ended


def moves_of(way):
    """By how many rows and columns each step of a way leads on."""
    return [(other[0] - one[0], other[1] - one[1]) for one, other in zip(way, way[1:])]


def turns_of(way):
    moves = moves_of(way)
    return sum(one != other for one, other in zip(moves, moves[1:]))


def all_rooms(floor, walker):
    """Each open spot is a room at first; each step makes one of two."""
    room_of = {spot: [spot] for spot in heights_of(floor)}
    for one, other in all_steps(floor, walker):
        if room_of[one] is not room_of[other]:
            joined = room_of[one] + room_of[other]
            for spot in joined:
                room_of[spot] = joined
    return sorted(sorted(room) for spot, room in room_of.items() if spot == min(room))


def put_on(floor, spot, sign):
    rows = [list(row) for row in floor]
    rows[spot[0]][spot[1]] = sign
    return tuple("".join(row) for row in rows)


def all_narrow(floor, walker):
    narrow = []
    for room in all_rooms(floor, walker):
        for spot in room:
            others = [other for other in room if other != spot]
            walled = all_rooms(put_on(floor, spot, "#"), walker)
            if others and others not in walled:
                narrow.append(spot)
    return sorted(narrow)


def fulfils_paper(floor, walker, goal, entries):
    """Whether right entries (open spots, numbers from 0 on, rising) are a paper, by the words of 2.2."""
    numbers = dict(entries)
    if numbers.get(goal) != 0:
        return False
    for (one, other), cost in all_steps(floor, walker).items():
        if other in numbers and not (one in numbers and numbers[one] <= cost + numbers[other]):
            return False
    return True


def drawer(state):
    """A function that draws numbers below a bound, which look chosen at random, the same ones in each run."""
    def draw(bound):
        nonlocal state
        state = (state * 6364136223846793005 + 1442695040888963407) % 2 ** 64
        return (state >> 33) % bound

    return draw


def scattered_floors(how_many, most_rows, most_columns, signs):
    """Floors that look chosen at random, the same ones in each run."""
    draw = drawer(12345)
    floors = []
    for _ in range(how_many):
        rows, columns = 1 + draw(most_rows), 1 + draw(most_columns)
        floors.append(tuple("".join(signs[draw(len(signs))] for _ in range(columns)) for _ in range(rows)))
    return floors


def every_floor(rows, columns, signs):
    """All floors of this size over these signs."""
    lines = ["".join(line) for line in product(signs, repeat=columns)]
    return list(product(lines, repeat=rows))


def fields_of(floor, walker, goals, costs):
    """A dict from each spot with a way to a goal to what it costs and the least spot to which it leads."""
    steps = all_steps(floor, walker)
    told = {}
    for spot in heights_of(floor):
        ends = [costs[spot, goal] for goal in goals if (spot, goal) in costs]
        if ends:
            onward = [
                other for (one, other), cost in steps.items() if one == spot
                and any(cost + costs[other, goal] == min(ends) for goal in goals if (other, goal) in costs)
            ]
            told[spot] = (min(ends), min(onward) if spot not in goals else None)
    return told


def are_apart(one, other):
    """Whether two ways in time keep apart, by the words of 7.1, long behind both their ends."""
    how_long = max(len(one), len(other)) + 3
    one = one + [one[-1]] * (how_long - len(one))
    other = other + [other[-1]] * (how_long - len(other))
    if any(here == there for here, there in zip(one, other)):
        return False
    moves = zip(zip(one, one[1:]), zip(other, other[1:]))
    return not any(here == (there[1], there[0]) for here, there in moves)


def ways_in_time(floor, walker, start, last):
    """All ways in time from the start that end at this time."""
    steps = all_steps(floor, walker)
    ways = [[start]]
    for _ in range(last):
        ways = [
            way + [spot] for way in ways for spot in heights_of(floor) if spot == way[-1] or (way[-1], spot) in steps
        ]
    return ways


def earliest_time(floor, walker, start, goal, ahead):
    """The first time from which a walker can stay at its goal, apart from those ahead of it, or None."""
    steps = all_steps(floor, walker)
    longest = max([len(way) for way in ahead], default=1)
    horizon = longest + 2 * len(heights_of(floor)) + 2
    ahead = [way + [way[-1]] * (horizon + 2 - len(way)) for way in ahead]
    spots = {start} - {way[0] for way in ahead}
    for time in range(horizon):
        if goal in spots and not any(goal in way[time:] for way in ahead):
            return time
        spots = {
            other for spot in spots for other in heights_of(floor)
            if (spot == other or (spot, other) in steps)
            and not any(way[time + 1] == other or way[time:time + 2] == [other, spot] for way in ahead)
        }
    return None


def clearance_of(floor, spot):
    heights = heights_of(floor)
    rows = 0
    while all((spot[0] + row, spot[1] + column) in heights for row in range(rows + 1) for column in range(rows + 1)):
        rows += 1
    return rows


def all_shrunk(floor, size):
    shrunk = floor
    for spot in heights_of(floor):
        if clearance_of(floor, spot) < size:
            shrunk = put_on(shrunk, spot, "#")
    return shrunk


def are_in_one_block(one, other, size):
    return (one[0] // size, one[1] // size) == (other[0] // size, other[1] // size)


def all_gates(floor, walker, size):
    return sorted({one for one, other in all_steps(floor, walker) if not are_in_one_block(one, other, size)})


def all_hops(floor, walker, size):
    """A dict from (spot, spot) to the cost, for all hops: within a block as if all about it were walls."""
    steps = all_steps(floor, walker)
    told = {pair: cost for pair, cost in steps.items() if not are_in_one_block(*pair, size)}
    for corner in product(range(0, len(floor), size), range(0, len(floor[0]), size)):
        alone = floor
        for spot in heights_of(floor):
            if not are_in_one_block(spot, corner, size):
                alone = put_on(alone, spot, "#")
        told.update({pair: cost for pair, cost in all_costs(alone, walker).items() if pair[0] != pair[1]})
    return told
