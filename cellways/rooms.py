"""Rooms, and the narrow spots that hold them together."""

from cellways.floors import open_spots, steps_over
from cellways.ways import spread_from


# Where a way leads there is one back, so that all spots of a room tell the same one.
def room_with(floor, walker, spot):
    return sorted(spread_from(floor, walker, spot))


def rooms(floor, walker):
    found = []
    placed = {}
    for spot in open_spots(floor):
        if spot not in placed:
            room = room_with(floor, walker, spot)
            found.append(room)
            for member in room:
                placed[member] = True
    return found


# A slanting step needs its two corners open, too; those of a straight one are its own two spots.
def needs_open(one, other, spot):
    return spot in (one, other, (one[0], other[1]), (other[0], one[1]))


def reached_past(onward, start, wall):
    reached = {start: True}
    waiting = [start]
    while len(waiting) > 0:
        one = waiting.pop()
        for other in onward[one]:
            if other not in reached and not needs_open(one, other, wall):
                reached[other] = True
                waiting.append(other)
    return reached


# A wall opens no new steps, so what is reached past it lies within the room.
def is_narrow(onward, room, spot):
    others = [other for other in room if other != spot]
    return len(others) > 0 and len(reached_past(onward, others[0], spot)) < len(others)


def narrow_spots(floor, walker):
    onward = steps_over(floor, walker)
    narrow = []
    for room in rooms(floor, walker):
        narrow.extend([spot for spot in room if is_narrow(onward, room, spot)])
    return sorted(narrow)
