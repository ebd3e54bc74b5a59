"""What is promised over the whole program: its names, and that it keeps nothing and changes nothing."""

import inspect
from copy import deepcopy
from importlib import import_module

from cellways import atlases, blocks, crowds, fields, floors, grounds, rooms, sizes, texts, turns, ways
from cellways.atlases import Atlas
from cellways.errors import FloorError
from cellways.kept import Keeper
from tests.reckoning import WALKERS, heights_of, scattered_floors
from tests.test_floors import Case, spoil

INTERFACE = {
    "floors": {
        "is_floor": 1, "is_walker": 1, "is_way": 3, "open_spots": 1, "height_at": 2, "steps_from": 3, "cost_of": 3,
    },
    "ways": {"distances_from": 3, "distances_to": 3, "least_way": 4, "is_paper": 4},
    "turns": {"runs_of": 3, "way_by": 4, "straightest": 4},
    "rooms": {"rooms": 2, "room_with": 3, "narrow_spots": 2},
    "kept": {"Keeper": 3},
    "fields": {"field": 3, "lead": 4, "nearest_goals": 4},
    "crowds": {"crowd": 4, "is_plan": 5},
    "sizes": {"clearance": 2, "shrunk": 2, "great_way": 5},
    "blocks": {"gates": 3, "hops": 3, "by_gates": 5},
    "texts": {"written_floor": 1, "read_floor": 1, "written_runs": 2, "read_runs": 1},
    "grounds": {
        "heights_in": 1, "walls_in": 1, "peaks": 1, "turned_floor": 1, "mirrored_floor": 1, "spot_turned": 2,
        "spot_mirrored": 2, "set_below": 2, "set_beside": 2,
    },
    "atlases": {"Atlas": 0, "atlas_text": 1, "read_atlas": 1},
}
METHODS = {
    Keeper: {"put": 2, "now": 0, "distance": 1, "way_from": 1, "cut_off": 0},
    Atlas: {
        "lay": 2, "floor_of": 1, "take": 1, "join": 4, "turn": 1, "mirror": 1, "sign": 3, "names": 0, "back": 0,
        "forth": 0, "marks": 0, "twin": 0,
    },
}


def calls(floor, walker, spots):
    """Calls of all functions of the program, some of them refused."""
    start, goal = spots[0], spots[-1]
    way = (ways.least_way(floor, walker, start, goal) or (0, [start]))[1]
    plan = crowds.crowd(floor, walker, spots[:3], spots[-3:])
    both = (floor, walker)
    return [
        (floors.is_floor, floor), (floors.is_walker, walker), (floors.is_way, *both, way), (floors.open_spots, floor),
        (floors.height_at, floor, start), (floors.steps_from, *both, start), (floors.cost_of, *both, way),
        (floors.cost_of, *both, [way]), (ways.distances_from, *both, start), (ways.distances_to, *both, goal),
        (ways.least_way, *both, start, goal), (ways.least_way, *both, start, (20, 20)),
        (ways.is_paper, *both, goal, ways.distances_to(*both, goal)), (turns.runs_of, *both, way),
        (turns.way_by, *both, start, turns.runs_of(*both, way)), (turns.way_by, *both, start, [("n", 30)]),
        (turns.straightest, *both, start, goal), (rooms.rooms, *both), (rooms.room_with, *both, start),
        (rooms.narrow_spots, *both), (fields.field, *both, spots[:4]), (fields.lead, *both, spots[:2], goal),
        (fields.nearest_goals, *both, spots[1:] or spots, start), (fields.field, *both, []),
        (crowds.crowd, *both, spots[:3], spots[-3:]), (crowds.is_plan, *both, spots[:3], spots[-3:], plan),
        (sizes.clearance, floor, start), (sizes.shrunk, floor, 2), (sizes.great_way, *both, 1, start, goal),
        (sizes.great_way, *both, 2, start, goal), (sizes.great_way, *both, 0, start, goal), (blocks.gates, *both, 2),
        (blocks.hops, *both, 2), (blocks.by_gates, *both, 2, start, goal), (texts.written_floor, floor),
        (texts.read_floor, texts.written_floor(floor)), (texts.written_runs, start, turns.runs_of(*both, way)),
        (texts.read_runs, "3,0 n2 se1"), (texts.read_runs, "3,0 n2 n1"), (grounds.heights_in, floor),
        (grounds.walls_in, floor), (grounds.peaks, floor), (grounds.turned_floor, floor),
        (grounds.mirrored_floor, floor), (grounds.spot_turned, floor, start), (grounds.spot_mirrored, floor, start),
        (grounds.set_below, floor, floor), (grounds.set_beside, floor, floor), (atlases.read_atlas, [floor]),
    ]


def told_by(function, arguments):
    try:
        return function(*arguments)
    except FloorError as taken:
        return type(taken)


class Whole(Case):
    def test_the_names_and_arguments_of_the_interface(self):
        for module, names in INTERFACE.items():
            for name, how_many in names.items():
                function = getattr(import_module("cellways." + module), name)
                self.assertEqual(len(inspect.signature(function).parameters), how_many, name)
        for owner, names in METHODS.items():
            for name, how_many in names.items():
                self.assertEqual(len(inspect.signature(getattr(owner, name)).parameters), how_many + 1, name)

    def test_each_function_of_the_interface_is_called(self):
        called = {call[0].__name__ for call in calls(("00", "00"), WALKERS[0], [(0, 0), (0, 1)])}
        functions = {name for names in INTERFACE.values() for name in names}
        self.assertEqual(functions - called, {"Keeper", "Atlas", "atlas_text"})

    def test_what_is_asked_again_is_told_again(self):
        for place, floor in enumerate(scattered_floors(40, 4, 5, "#00012")):
            spots = sorted(heights_of(floor))
            if spots:
                for function, *arguments in calls(floor, WALKERS[place % len(WALKERS)], spots):
                    kept = deepcopy(arguments)
                    told = told_by(function, arguments)
                    first = deepcopy(told)
                    spoil(told)
                    self.assertEqual(arguments, kept, function)
                    self.assertEqual(told_by(function, arguments), first, function)
                    self.assertEqual(arguments, kept, function)

    def test_told_lists_are_not_those_that_were_handed_in(self):
        floor, walker = ("000", "000"), (True, 9, 0)
        runs, goals = [("e", 2)], [(0, 0)]
        way = turns.way_by(floor, walker, (0, 0), runs)
        spoil(turns.runs_of(floor, walker, way))
        spoil(fields.nearest_goals(floor, walker, goals, (0, 1)))
        spoil(crowds.crowd(floor, walker, goals, goals))
        self.assertEqual((way, runs, goals), ([(0, 0), (0, 1), (0, 2)], [("e", 2)], [(0, 0)]))
