"""Ways in time of several walkers that keep apart."""

from cellways.floors import is_list_of_open_spots, need_open, step_cost, steps_over


# Behind the end of its way a walker stays there.
def spot_at(way, time):
    return way[min(time, len(way) - 1)]


# For each walker where it is at this time and at the next one.
def moves_at(ways, time):
    return [(spot_at(way, time), spot_at(way, time + 1)) for way in ways]


# From this time on no walker moves any more.
def still_from(ways):
    return max([len(way) - 1 for way in ways], default=0)


# From this time on no way leads over the spot any more.
def left_from(ways, spot):
    left = 0
    for way in ways:
        for time, passed in enumerate(way):
            if passed == spot:
                left = max(left, time + 1)
    return left


# Told for each spot at which a walker can be at the next time: one from which it comes there.
def reached_next(onward, reached, moves):
    moved = dict(moves)
    taken = dict([(move[1], True) for move in moves])
    later = {}
    for spot in reached:
        for other in [spot] + onward[spot]:
            if other not in taken and moved.get(other) != spot:
                later[other] = spot
    return later


def traced_back(times, goal):
    way = [goal]
    for reached in reversed(times[1:]):
        way.append(reached[way[-1]])
    return list(reversed(way))


# A walker that would begin where another one does has no way apart from that one.
# Once those ahead are still, a walker can wait wherever it is: if no spot is won then, none ever will be.
def earliest_way(onward, ahead, start, goal):
    if start in [way[0] for way in ahead]:
        return None
    left = left_from(ahead, goal)
    still = still_from(ahead)
    times = [{start: None}]
    while goal not in times[-1] or len(times) - 1 < left:
        time = len(times) - 1
        later = reached_next(onward, times[-1], moves_at(ahead, time))
        if time >= still and len(later) == len(times[-1]):
            return None
        times.append(later)
    return traced_back(times, goal)


def crowd(floor, walker, starts, goals):
    for spot in starts + goals:
        need_open(floor, spot)
    onward = steps_over(floor, walker)
    told = []
    for start, goal in zip(starts, goals):
        ahead = [way for way in told if way is not None]
        told.append(earliest_way(onward, ahead, start, goal))
    return told


def is_step_or_wait(floor, walker, one, other):
    return one == other or step_cost(floor, walker, one, other) is not None


def is_way_in_time(floor, walker, thing):
    if not is_list_of_open_spots(floor, thing):
        return False
    return all([is_step_or_wait(floor, walker, one, other) for one, other in zip(thing, thing[1:])])


# Two at one spot would be one key, so that they are missed in the number.
def are_moves_apart(moves):
    moved = dict(moves)
    if len(moved) < len(moves):
        return False
    return not any([one != other and moved.get(other) == one for one, other in moves])


def keep_apart(ways):
    return all([are_moves_apart(moves_at(ways, time)) for time in range(still_from(ways) + 1)])


def fulfils_plan(floor, walker, start, goal, thing):
    if thing is None:
        return True
    return is_way_in_time(floor, walker, thing) and thing[0] == start and thing[-1] == goal


def is_plan(floor, walker, starts, goals, thing):
    if not isinstance(thing, list) or len(thing) != len(starts):
        return False
    if not all([fulfils_plan(floor, walker, start, goal, entry) for start, goal, entry in zip(starts, goals, thing)]):
        return False
    return keep_apart([way for way in thing if way is not None])
