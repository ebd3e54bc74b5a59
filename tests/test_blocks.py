from itertools import product

from cellways.blocks import by_gates, gates, hops
from cellways.errors import NoSize, NoSpot
from cellways.ways import least_way
from tests.reckoning import (
    BIG, WALKERS, all_costs, all_gates, all_hops, every_floor, heights_of, scattered_floors,
)
from tests.test_floors import Case

FREE = (True, 9, 3)
STRAIGHT = (False, 9, 0)
SIDES = [(-1, 0), (0, -1), (2, 0), (0, 3), (-2, -3), (BIG, 0), (0, -BIG), (0, 1)]
NO_SIZES = [0, -1, -12, 13, 14, 100, BIG, -BIG]


class Gates(Case):
    def test_a_few(self):
        self.assertEqual(gates(("0",), FREE, 1), [])
        self.assertEqual(gates(("00",), FREE, 1), [(0, 0), (0, 1)])
        self.assertEqual(gates(("00",), FREE, 2), [])
        self.assertEqual(gates(("0000",), FREE, 2), [(0, 1), (0, 2)])
        self.assertEqual(gates(("0000",), FREE, 3), [(0, 2), (0, 3)])
        self.assertEqual(gates(("00#0",), FREE, 2), [])
        self.assertEqual(gates(("0050",), (True, 4, 0), 2), [])
        self.assertEqual(gates(("0050",), (True, 5, 0), 2), [(0, 1), (0, 2)])
        self.assertEqual(gates(("#",), FREE, 1), [])

    def test_slanting_steps_alone(self):
        floor = ("0909", "9090", "0909", "9090")
        self.assertEqual(gates(floor, (False, 0, 0), 2), [])
        slanting = [(0, 1), (0, 2), (1, 0), (1, 1), (1, 2), (1, 3), (2, 0), (2, 1), (2, 2), (2, 3), (3, 1), (3, 2)]
        self.assertEqual(gates(floor, (True, 0, 0), 2), slanting)
        floor = ("0099", "0099", "9900", "9900")
        self.assertEqual(gates(floor, (True, 0, 0), 2), [(1, 1), (1, 2), (2, 1), (2, 2)])
        self.assertEqual(gates(floor, (False, 0, 0), 2), [])
        self.assertEqual(gates(("00##", "00##", "##00", "##00"), (True, 0, 0), 2), [])

    def test_each_size(self):
        for place, floor in enumerate(scattered_floors(60, 6, 7, "##0001135")):
            walker = WALKERS[place % len(WALKERS)]
            for size in range(1, 13):
                self.assertEqual(gates(floor, walker, size), all_gates(floor, walker, size), (floor, walker, size))

    def test_no_size(self):
        for size in NO_SIZES:
            self.assertRefused(NoSize, gates, ("00", "00"), FREE, size)
            self.assertRefused(NoSize, hops, ("00", "00"), FREE, size)
            self.assertRefused(NoSize, gates, ("#",), FREE, size)
            self.assertRefused(NoSize, hops, ("#",), FREE, size)

    def test_floors_beyond_the_bounds_are_not_refused(self):
        self.assertEqual(gates(("0" * 14,), (True, 10, 4), 12), [(0, 11), (0, 12)])
        self.assertEqual(hops(("0" * 14,), (True, 10, 4), 12), [((0, 11), (0, 12), 2), ((0, 12), (0, 11), 2)])
        self.assertEqual(by_gates(("0" * 14,), (True, 10, 4), 12, (0, 0), (0, 13))[0], 26)


class Hops(Case):
    def assertHops(self, floor, walker, size):
        stops = all_gates(floor, walker, size)
        reckoned = all_hops(floor, walker, size)
        expected = sorted((*pair, cost) for pair, cost in reckoned.items() if pair[0] in stops and pair[1] in stops)
        self.assertEqual(hops(floor, walker, size), expected, (floor, walker, size))
        return stops, reckoned

    def test_a_few(self):
        self.assertEqual(hops(("0",), FREE, 1), [])
        self.assertEqual(hops(("00",), FREE, 2), [])
        self.assertEqual(hops(("03",), (False, 9, 2), 1), [((0, 0), (0, 1), 8), ((0, 1), (0, 0), 2)])
        self.assertEqual(hops(("000000",), FREE, 2), [
            ((0, 1), (0, 2), 2), ((0, 2), (0, 1), 2), ((0, 2), (0, 3), 2), ((0, 3), (0, 2), 2),
            ((0, 3), (0, 4), 2), ((0, 4), (0, 3), 2),
        ])

    def costs(self, floor, size):
        return {(one, other): cost for one, other, cost in hops(floor, STRAIGHT, size)}

    def test_a_way_that_leaves_the_block_does_not_count(self):
        floor = ("000", "0#0", "0#0", "000")
        self.assertEqual(least_way(floor, STRAIGHT, (2, 0), (2, 2))[0], 8)
        told = self.costs(floor, 3)
        self.assertEqual((told[(2, 0), (2, 2)], told[(3, 0), (3, 2)], told[(2, 0), (3, 0)]), (12, 4, 2))

    def test_gates_that_only_a_way_outside_joins(self):
        floor = ("0#0", "0#0", "0#0", "000")
        self.assertEqual(gates(floor, STRAIGHT, 3), [(2, 0), (2, 2), (3, 0), (3, 2)])
        told = self.costs(floor, 3)
        self.assertNotIn(((2, 0), (2, 2)), told)
        self.assertEqual((told[(3, 0), (3, 2)], len(told)), (4, 6))

    def test_spots_that_are_no_gates_are_left_out(self):
        floor = ("0#000", "0###0", "00000")
        self.assertEqual(self.costs(floor, 3), {
            ((0, 2), (0, 3)): 2, ((0, 3), (0, 2)): 2, ((2, 2), (2, 3)): 2, ((2, 3), (2, 2)): 2,
            ((0, 3), (2, 3)): 8, ((2, 3), (0, 3)): 8,
        })

    def test_every_small_floor(self):
        for floor in every_floor(2, 3, "#0") + every_floor(1, 4, "#04"):
            for walker in [(False, 9, 1), (True, 3, 0)]:
                for size in (1, 2):
                    self.assertHops(floor, walker, size)

    def test_scattered_floors(self):
        for place, floor in enumerate(scattered_floors(36, 4, 5, "#0000113")):
            walker = WALKERS[place % len(WALKERS)]
            costs = all_costs(floor, walker)
            for size in (1, 2, 3, 4, 12):
                stops, reckoned = self.assertHops(floor, walker, size)
                for start, goal in product(heights_of(floor), heights_of(floor)):
                    told = by_gates(floor, walker, size, start, goal)
                    self.assertByGates(told, start, goal, stops, reckoned, costs.get((start, goal)))

    def assertByGates(self, told, start, goal, stops, reckoned, cost):
        if cost is None:
            self.assertIsNone(told)
            return
        self.assertIs(type(told), tuple)
        self.assertEqual((len(told), told[0]), (2, cost))
        self.assertIs(type(told[1]), list)
        self.assertEqual((told[1][0], told[1][-1]), (start, goal))
        self.assertEqual(len(told[1]) == 1, start == goal)
        for stop in told[1][1:-1]:
            self.assertIn(stop, stops)
        self.assertEqual(sum(reckoned[pair] for pair in zip(told[1], told[1][1:])), cost)


class ByGates(Case):
    def test_a_few(self):
        self.assertEqual(by_gates(("00000",), FREE, 2, (0, 0), (0, 4)), (
            8, [(0, 0), (0, 1), (0, 2), (0, 3), (0, 4)]))
        self.assertEqual(by_gates(("000000",), FREE, 3, (0, 0), (0, 5)), (10, [(0, 0), (0, 2), (0, 3), (0, 5)]))
        self.assertEqual(by_gates(("000000",), FREE, 6, (0, 0), (0, 5)), (10, [(0, 0), (0, 5)]))
        self.assertEqual(by_gates(("0000",), FREE, 2, (0, 1), (0, 2)), (2, [(0, 1), (0, 2)]))

    def test_the_same_start_and_goal(self):
        for size in range(1, 13):
            for spot in [(0, 0), (1, 1), (1, 2)]:
                self.assertEqual(by_gates(("0#0", "000"), FREE, size, spot, spot), (0, [spot]))

    def test_none(self):
        for size in range(1, 13):
            self.assertIsNone(by_gates(("0#0",), FREE, size, (0, 0), (0, 2)))
            self.assertIsNone(by_gates(("0050",), (True, 4, 0), size, (0, 0), (0, 3)))

    def test_out_of_the_block_and_back(self):
        floor = ("0#0", "000")
        for size in (2, 3):
            self.assertEqual(by_gates(floor, STRAIGHT, size, (0, 0), (0, 2))[0], 8)
        floor = ("0#000", "0###0", "00000")
        self.assertEqual(by_gates(floor, STRAIGHT, 3, (0, 0), (0, 2))[0], 20)
        self.assertEqual(by_gates(floor, STRAIGHT, 12, (0, 0), (0, 2)), (20, [(0, 0), (0, 2)]))

    def test_costs_what_the_least_way_costs_whatever_the_size(self):
        for place, floor in enumerate(scattered_floors(12, 12, 12, "#0000013")):
            walker = WALKERS[(5 * place) % len(WALKERS)]
            spots = sorted(heights_of(floor))
            for start, goal in list(zip(spots, reversed(spots)))[:4]:
                least = least_way(floor, walker, start, goal)
                for size in range(1, 13):
                    told = by_gates(floor, walker, size, start, goal)
                    self.assertEqual(told and told[0], least and least[0], (floor, walker, size, start, goal))

    def test_no_size_comes_first(self):
        for size in NO_SIZES:
            for start, goal in product(SIDES + [(0, 0)], SIDES + [(0, 0)]):
                self.assertRefused(NoSize, by_gates, ("0#1", "000"), FREE, size, start, goal)

    def test_no_spot(self):
        for size, spot in product([1, 2, 12], SIDES):
            self.assertRefused(NoSpot, by_gates, ("0#1", "000"), FREE, size, spot, (0, 0))
            self.assertRefused(NoSpot, by_gates, ("0#1", "000"), FREE, size, (0, 0), spot)
            self.assertRefused(NoSpot, by_gates, ("0#1", "000"), FREE, size, spot, spot)

    def test_told_lists_are_new(self):
        floor = ("0000", "0100")
        for tell in [
            lambda: gates(floor, FREE, 2), lambda: hops(floor, FREE, 2),
            lambda: by_gates(floor, FREE, 2, (0, 0), (0, 3)), lambda: by_gates(floor, FREE, 2, (0, 0), (0, 0)),
        ]:
            self.assertToldAnew(tell)
