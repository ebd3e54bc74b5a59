"""Ways to a goal, kept while walls and heights change."""

from cellways.errors import NoSign
from cellways.floors import WALL, need_on_floor, need_open, need_sign, open_spots, with_sign
from cellways.ways import spread_to, traced


class Keeper:
    def __init__(self, floor, walker, goal):
        need_open(floor, goal)
        self.floor = floor
        self.walker = walker
        self.goal = goal
        self.reached = None

    def put(self, spot, sign):
        need_on_floor(self.floor, spot)
        need_sign(sign)
        if sign == WALL and spot == self.goal:
            raise NoSign("the goal can't be a wall")
        self.floor = with_sign(self.floor, spot, sign)
        self.reached = None

    def now(self):
        return self.floor

    # Found only when it is asked for, so that many signs can be put one behind the other at no cost.
    def found(self):
        if self.reached is None:
            self.reached = spread_to(self.floor, self.walker, [self.goal])
        return self.reached

    def distance(self, spot):
        need_open(self.floor, spot)
        reached = self.found()
        return reached[spot][0] if spot in reached else None

    def way_from(self, spot):
        need_open(self.floor, spot)
        reached = self.found()
        return traced(reached, spot) if spot in reached else None

    def cut_off(self):
        reached = self.found()
        return [spot for spot in open_spots(self.floor) if spot not in reached]
