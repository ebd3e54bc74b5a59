from copy import deepcopy
from itertools import product

from cellways.errors import NoSpot, NoWay
from cellways.floors import cost_of, is_way
from cellways.turns import runs_of, straightest, way_by
from tests.reckoning import (
    BIG, THINGS, WALKERS, all_costs, all_steps, drawer, every_floor, heights_of, least_ways, moves_of,
    scattered_floors, turns_of,
)
from tests.test_floors import Case

FREE = (True, 9, 3)
STRAIGHT = (False, 9, 0)
MOVES = {
    "n": (-1, 0), "s": (1, 0), "w": (0, -1), "e": (0, 1),
    "ne": (-1, 1), "nw": (-1, -1), "se": (1, 1), "sw": (1, -1),
}
FLAT = ("00000", "00000", "00000", "00000", "00000")


def wandering_ways(floor, walker, how_many):
    """Ways that go about, back and forth too, some of one spot."""
    draw = drawer(777)
    steps = all_steps(floor, walker)
    spots = sorted(heights_of(floor))
    ways = []
    for _ in range(how_many if spots else 0):
        way = [spots[draw(len(spots))]]
        for _ in range(draw(9)):
            ahead = sorted(other for one, other in steps if one == way[-1])
            way += [ahead[draw(len(ahead))]] if ahead else []
        ways.append(way)
    return ways


class Runs(Case):
    def test_each_direction(self):
        for direction, (rows, columns) in MOVES.items():
            way = [(2, 2), (2 + rows, 2 + columns), (2 + 2 * rows, 2 + 2 * columns)]
            self.assertEqual(runs_of(FLAT, FREE, way[:2]), [(direction, 1)])
            self.assertEqual(runs_of(FLAT, FREE, way), [(direction, 2)])
            self.assertEqual(way_by(FLAT, FREE, (2, 2), [(direction, 1)]), way[:2])
            self.assertEqual(way_by(FLAT, FREE, (2, 2), [(direction, 2)]), way)

    def test_one_spot(self):
        for spot in [(0, 0), (1, 1)]:
            self.assertEqual(runs_of(("0#", "#9"), FREE, [spot]), [])
            self.assertEqual(way_by(("0#", "#9"), FREE, spot, []), [spot])

    def test_several_runs(self):
        way = [(0, 0), (0, 1), (0, 2), (1, 3), (2, 4), (3, 4), (2, 4), (2, 3)]
        runs = [("e", 2), ("se", 2), ("s", 1), ("n", 1), ("w", 1)]
        self.assertEqual(runs_of(FLAT, FREE, way), runs)
        self.assertEqual(way_by(FLAT, FREE, (0, 0), runs), way)

    def test_a_long_run(self):
        row = [(0, column) for column in range(12)]
        self.assertEqual(runs_of(("0" * 12,), FREE, row), [("e", 11)])
        self.assertEqual(runs_of(("0" * 12,), FREE, row[::-1]), [("w", 11)])
        self.assertEqual(way_by(("0" * 12,), FREE, (0, 11), [("w", 11)]), row[::-1])

    def test_wandering_ways(self):
        for place, floor in enumerate(scattered_floors(60, 6, 6, "#0000112")):
            walker = WALKERS[place % len(WALKERS)]
            for way in wandering_ways(floor, walker, 8):
                self.assertRuns(floor, walker, way)

    def assertRuns(self, floor, walker, way):
        runs = runs_of(floor, walker, way)
        self.assertIs(type(runs), list)
        for run in runs:
            self.assertIs(type(run), tuple)
            self.assertEqual([type(part) for part in run], [str, int])
            self.assertGreaterEqual(run[1], 1)
        for one, other in zip(runs, runs[1:]):
            self.assertNotEqual(one[0], other[0])
        moves = [MOVES[direction] for direction, steps in runs for _ in range(steps)]
        self.assertEqual(moves, moves_of(way))
        self.assertEqual(way_by(floor, walker, way[0], runs), way)

    def test_no_way(self):
        floor = ("01#", "000", "095")
        wrong = [
            [], [(0, 2)], [(0, 0), (0, 0)], [(0, 0), (0, 2)], [(0, 0), (2, 0)], [(0, 1), (0, 2)], [(0, 0), (-1, 0)],
            [(0, 1), (1, 2)], [(1, 1), (2, 1)], [(0, 0), (0, 1), (0, 1)], ((0, 0), (0, 1)), [[0, 0], [0, 1]],
            [(0, False), (0, 1)], [(0, 0), (0, True)], [(0, 0), (0, 1, 0)], "00", None, 0, [(0, 0), None],
        ]
        for thing in wrong:
            self.assertRefused(NoWay, runs_of, floor, (True, 1, 0), thing)
        self.assertRefused(NoWay, runs_of, floor, (False, 9, 0), [(0, 0), (1, 1)])
        self.assertEqual(runs_of(floor, (True, 1, 0), [(0, 0), (1, 1)]), [("se", 1)])

    def test_other_things(self):
        for thing in THINGS:
            for floor in [("0",), ("00", "00"), ("#",)]:
                self.assertRefused(NoWay, runs_of, floor, FREE, thing)
            self.assertRefused(NoWay, runs_of, ("00", "00"), FREE, [(0, 0), thing])


class WaysByRuns(Case):
    def test_no_steps(self):
        for direction in MOVES:
            self.assertEqual(way_by(("0",), STRAIGHT, (0, 0), [(direction, 0)]), [(0, 0)])
            told = way_by(("000",), STRAIGHT, (0, 0), [(direction, 0), ("e", 1), (direction, 0), ("e", 1)])
            self.assertEqual(told, [(0, 0), (0, 1), (0, 2)])

    def test_neighbours_of_one_direction(self):
        told = way_by(FLAT, FREE, (0, 0), [("e", 1), ("e", 2), ("e", 0), ("e", 1), ("s", 1), ("s", 1)])
        self.assertEqual(told, [(0, 0), (0, 1), (0, 2), (0, 3), (0, 4), (1, 4), (2, 4)])

    def test_out_and_back(self):
        told = way_by(("00",), STRAIGHT, (0, 0), [("e", 1), ("w", 1), ("e", 1)])
        self.assertEqual(told, [(0, 0), (0, 1), (0, 0), (0, 1)])

    def test_beyond_each_side(self):
        for direction in MOVES:
            for steps in [3, 4, 5, 6, 7, 13, BIG]:
                self.assertRefused(NoWay, way_by, FLAT, FREE, (2, 2), [(direction, steps)])
            self.assertRefused(NoWay, way_by, FLAT, FREE, (2, 2), [(direction, 2), (direction, 1)])

    def test_beyond_a_side_and_back_again(self):
        back = {"n": "s", "s": "n", "w": "e", "e": "w", "ne": "sw", "nw": "se", "se": "nw", "sw": "ne"}
        for direction, other in back.items():
            self.assertRefused(NoWay, way_by, FLAT, FREE, (2, 2), [(direction, 3), (other, 3)])
            self.assertRefused(NoWay, way_by, ("0",), FREE, (0, 0), [(direction, 1), (other, 1)])

    def test_at_the_first_a_middle_and_the_last_step(self):
        for floor in [("#0000",), ("0#000",), ("000#0",), ("0000#",), ("90000",), ("00900",), ("00009",)]:
            walker = (False, 8, 0)
            for start, goal in product(range(5), range(5)):
                runs = [("e", goal - start)] if start < goal else [("w", start - goal)]
                way = [(0, start + step * (1 if start < goal else -1)) for step in range(abs(goal - start) + 1)]
                if floor[0][start] == "#":
                    self.assertRefused(NoSpot, way_by, floor, walker, (0, start), runs)
                elif is_way(floor, walker, way):
                    self.assertEqual(way_by(floor, walker, (0, start), runs), way)
                else:
                    self.assertRefused(NoWay, way_by, floor, walker, (0, start), runs)

    def test_past_corners(self):
        self.assertEqual(way_by(("00", "00"), FREE, (0, 0), [("se", 1)]), [(0, 0), (1, 1)])
        for floor in [("0#", "00"), ("00", "#0"), ("0#", "#0")]:
            self.assertRefused(NoWay, way_by, floor, FREE, (0, 0), [("se", 1)])
        self.assertRefused(NoWay, way_by, ("00", "00"), STRAIGHT, (0, 0), [("se", 1)])

    def test_all_short_runs_against_the_second_reckoning(self):
        for floor in [("0#", "13"), ("02", "00"), ("000", "#50"), ("0",)]:
            for walker in [(False, 1, 1), (True, 2, 3), (True, 9, 0)]:
                steps = all_steps(floor, walker)
                for start in heights_of(floor):
                    for directions in product(MOVES, repeat=2):
                        self.assertLed(floor, walker, steps, start, directions)

    def assertLed(self, floor, walker, steps, start, directions):
        way = [start]
        for direction in directions:
            way.append((way[-1][0] + MOVES[direction][0], way[-1][1] + MOVES[direction][1]))
        runs = [(direction, 1) for direction in directions]
        if all(step in steps for step in zip(way, way[1:])):
            self.assertEqual(way_by(floor, walker, start, runs), way)
        else:
            self.assertRefused(NoWay, way_by, floor, walker, start, runs)

    def test_the_start_comes_first(self):
        floor = ("0#1", "000")
        for start in [(0, 1), (-1, 0), (0, -1), (2, 0), (0, 3), (BIG, 0), (0, -BIG)]:
            for runs in [[], [("e", 1)], [("n", 0)], [("s", 9)], [("n", BIG)]]:
                self.assertRefused(NoSpot, way_by, floor, FREE, start, runs)

    def test_no_direction(self):
        for direction in ["", "x", "N", "en", "ns", "nn", "n ", "nne", "north"]:
            self.assertRefused(NoWay, way_by, FLAT, FREE, (2, 2), [(direction, 1)])


class Straightest(Case):
    def assertStraightest(self, floor, walker, start, goal, costs):
        told = straightest(floor, walker, start, goal)
        if (start, goal) not in costs:
            self.assertIsNone(told)
            return
        self.assertIs(type(told), tuple)
        self.assertEqual([type(part) for part in told], [int, int, list])
        cost, turns, way = told
        self.assertEqual(cost, costs[start, goal])
        fewest = min(turns_of(other) for other in least_ways(floor, walker, start, goal, costs))
        self.assertEqual(turns, fewest, (floor, walker, start, goal))
        self.assertIs(is_way(floor, walker, way), True)
        self.assertEqual((way[0], way[-1]), (start, goal))
        self.assertEqual((cost_of(floor, walker, way), turns_of(way)), (cost, turns))
        self.assertEqual(turns, max(len(runs_of(floor, walker, way)) - 1, 0))

    def test_every_small_floor(self):
        for floor in every_floor(2, 2, "#03") + every_floor(1, 3, "#02"):
            for walker in [(False, 9, 0), (True, 9, 0), (True, 3, 1), (False, 2, 3)]:
                costs = all_costs(floor, walker)
                for start, goal in product(heights_of(floor), repeat=2):
                    self.assertStraightest(floor, walker, start, goal, costs)

    def test_scattered_floors(self):
        for place, floor in enumerate(scattered_floors(120, 4, 4, "#00000115")):
            walker = WALKERS[place % len(WALKERS)]
            costs = all_costs(floor, walker)
            for start, goal in product(heights_of(floor), repeat=2):
                self.assertStraightest(floor, walker, start, goal, costs)

    def test_few_turns(self):
        told = straightest(FLAT, STRAIGHT, (0, 0), (4, 4))
        self.assertEqual(told[:2], (16, 1))
        self.assertEqual(straightest(FLAT, FREE, (0, 0), (4, 4)), (12, 0, [(0, 0), (1, 1), (2, 2), (3, 3), (4, 4)]))
        self.assertEqual(straightest(FLAT, FREE, (0, 0), (4, 2))[:2], (10, 1))
        self.assertEqual(straightest(FLAT, FREE, (4, 1), (0, 1))[:2], (8, 0))

    def test_cost_comes_ahead_of_turns(self):
        floor = ("090", "000")
        self.assertEqual(straightest(floor, (False, 9, 1), (0, 0), (0, 2))[:2], (8, 2))
        self.assertEqual(straightest(floor, (False, 9, 0), (0, 0), (0, 2))[:2], (4, 0))

    def test_the_same_start_and_goal(self):
        for spot in [(0, 0), (0, 1), (1, 1)]:
            self.assertEqual(straightest(("00", "#0"), FREE, spot, spot), (0, 0, [spot]))

    def test_no_way(self):
        self.assertIsNone(straightest(("0#0",), FREE, (0, 0), (0, 2)))
        self.assertIsNone(straightest(("05",), (False, 4, 0), (0, 0), (0, 1)))
        self.assertIsNone(straightest(("0#", "#0"), FREE, (0, 0), (1, 1)))

    def test_no_spot(self):
        floor = ("0#1", "000")
        for spot in [(0, 1), (-1, 0), (0, -1), (2, 0), (0, 3), (-2, -3), (BIG, 0), (0, -BIG)]:
            self.assertRefused(NoSpot, straightest, floor, FREE, spot, (0, 0))
            self.assertRefused(NoSpot, straightest, floor, FREE, (0, 0), spot)
            self.assertRefused(NoSpot, straightest, floor, FREE, spot, spot)

    def test_great_floors(self):
        flat = ("4" * 12,) * 12
        self.assertEqual(straightest(flat, FREE, (0, 0), (11, 11))[:2], (33, 0))
        self.assertEqual(straightest(flat, STRAIGHT, (0, 0), (11, 11))[:2], (44, 1))
        snake = ("0" * 12, "#" * 11 + "0", "0" * 12, "0" + "#" * 11) * 3
        self.assertEqual(straightest(snake, FREE, (0, 0), (10, 0))[:2], (152, 10))
        beyond = ("0" * 13,) * 14
        self.assertEqual(straightest(beyond, (True, 10, 4), (0, 0), (13, 12))[:2], (38, 1))


class Handed(Case):
    def test_told_lists_are_new(self):
        way, runs = [(0, 0), (0, 1), (1, 1)], [("e", 1), ("s", 1)]
        tells = [
            lambda: runs_of(FLAT, FREE, way),
            lambda: runs_of(FLAT, FREE, [(0, 0)]),
            lambda: way_by(FLAT, FREE, (0, 0), runs),
            lambda: way_by(FLAT, FREE, (0, 0), []),
            lambda: straightest(FLAT, FREE, (0, 0), (3, 1)),
            lambda: straightest(FLAT, FREE, (0, 0), (0, 0)),
        ]
        for tell in tells:
            self.assertToldAnew(tell)

    def test_what_is_handed_in_stays(self):
        for way in [[(0, 0), (0, 1), (0, 2)], [(0, 0), (0, 0)], [], [[0, 0], [True]]]:
            kept = deepcopy(way)
            try:
                self.assertIsNot(runs_of(FLAT, FREE, way), way)
            except NoWay:
                pass
            self.assertEqual(way, kept)
        for runs in [[("e", 1), ("e", 0), ("e", 2)], [("e", 9), ("w", 1)], []]:
            kept = deepcopy(runs)
            try:
                self.assertIsNot(way_by(FLAT, FREE, (0, 0), runs), runs)
            except NoWay:
                pass
            self.assertEqual(runs, kept)
