from itertools import product

from cellways.errors import NoSize, NoSpot
from cellways.floors import cost_of, is_floor, is_way
from cellways.sizes import clearance, great_way, shrunk
from cellways.ways import least_way
from tests.reckoning import (
    BIG, WALKERS, all_costs, all_shrunk, clearance_of, every_floor, heights_of, scattered_floors,
)
from tests.test_floors import Case

FREE = (True, 9, 3)
STRAIGHT = (False, 9, 0)
SIDES = [(-1, 0), (0, -1), (2, 0), (0, 3), (-2, -3), (BIG, 0), (0, -BIG), (0, 1)]
NO_SIZES = [0, -1, -12, 13, 14, 100, BIG, -BIG]


class Clearances(Case):
    def test_a_few(self):
        self.assertEqual(clearance(("0",), (0, 0)), 1)
        self.assertEqual(clearance(("00", "00"), (0, 0)), 2)
        self.assertEqual(clearance(("00", "00"), (0, 1)), 1)
        self.assertEqual(clearance(("00", "00"), (1, 0)), 1)
        self.assertEqual(clearance(("09", "50"), (0, 0)), 2)
        for floor in [("0#", "00"), ("00", "#0"), ("00", "0#"), ("00",), ("0", "0")]:
            self.assertEqual(clearance(floor, (0, 0)), 1, floor)
        self.assertEqual(clearance(("000", "0#0", "000"), (0, 0)), 1)
        self.assertEqual(clearance(("0000", "0000", "000#", "0000"), (0, 0)), 3)
        self.assertEqual(clearance(("0000", "0000", "00#0", "0000"), (0, 0)), 2)
        self.assertEqual(clearance(("#00", "#00"), (0, 1)), 2)

    def test_a_wall_far_off_at_each_spot(self):
        for row, column in product(range(5), range(5)):
            floor = tuple("".join("#" if (row, column) == (r, c) else "3" for c in range(5)) for r in range(5))
            for spot in heights_of(floor):
                self.assertEqual(clearance(floor, spot), clearance_of(floor, spot), (floor, spot))

    def test_scattered_floors(self):
        for floor in scattered_floors(60, 7, 8, "#000000000125") + every_floor(3, 3, "#0"):
            for spot in heights_of(floor):
                told = clearance(floor, spot)
                self.assertEqual(told, clearance_of(floor, spot), (floor, spot))
                self.assertIs(type(told), int)

    def test_great_floors(self):
        for spot in product(range(12), range(12)):
            self.assertEqual(clearance(("4" * 12,) * 12, spot), 12 - max(spot))
        self.assertEqual(clearance(("0" * 14,) * 13, (0, 0)), 13)
        self.assertEqual(clearance(("0" * 14,) * 13, (0, 1)), 13)

    def test_no_spot(self):
        for spot in SIDES:
            self.assertRefused(NoSpot, clearance, ("0#1", "000"), spot)


class Shrunk(Case):
    def test_a_few(self):
        floor = ("0123", "45#6", "7890")
        self.assertEqual(shrunk(floor, 1), floor)
        self.assertEqual(shrunk(floor, 2), ("0###", "4###", "####"))
        self.assertEqual(shrunk(floor, 3), ("####",) * 3)
        self.assertEqual(shrunk(("#",), 1), ("#",))
        self.assertEqual(shrunk(("0",), 2), ("#",))

    def test_each_size(self):
        for floor in scattered_floors(25, 12, 12, "#0000000000000125") + [("7" * 12,) * 12]:
            for size in range(1, 13):
                told = shrunk(floor, size)
                self.assertEqual(told, all_shrunk(floor, size), (floor, size))
                self.assertIs(is_floor(told), True)
            self.assertEqual(shrunk(floor, 1), floor)

    def test_every_small_floor(self):
        for floor in every_floor(3, 3, "#0"):
            for size in (1, 2, 3, 4):
                self.assertEqual(shrunk(floor, size), all_shrunk(floor, size))

    def test_floors_beyond_the_bounds_are_not_refused(self):
        self.assertEqual(shrunk(("0" * 14,) * 13, 12), ("000" + "#" * 11,) * 2 + ("#" * 14,) * 11)

    def test_no_size(self):
        for size in NO_SIZES:
            self.assertRefused(NoSize, shrunk, ("00", "00"), size)
            self.assertRefused(NoSize, shrunk, ("0" * 14,) * 14, size)


class GreatWays(Case):
    def assertGreat(self, floor, walker, size, costs):
        small = all_shrunk(floor, size)
        for start, goal in product(heights_of(floor), heights_of(floor)):
            if start not in heights_of(small) or goal not in heights_of(small):
                self.assertRefused(NoSpot, great_way, floor, walker, size, start, goal)
                continue
            told = great_way(floor, walker, size, start, goal)
            cost = costs.get((start, goal))
            if cost is None:
                self.assertIsNone(told)
            else:
                self.assertIs(type(told), tuple)
                self.assertEqual((told[0], len(told)), (cost, 2))
                self.assertEqual((told[1][0], told[1][-1]), (start, goal))
                self.assertIs(is_way(small, walker, told[1]), True)
                self.assertEqual(cost_of(floor, walker, told[1]), cost)

    def test_a_narrow_door(self):
        floor = ("00#00", "00000", "00#00")
        self.assertEqual(great_way(floor, FREE, 1, (0, 0), (0, 4))[0], 10)
        self.assertIsNone(great_way(floor, FREE, 2, (0, 0), (0, 3)))
        wide = ("00#00", "00000", "00000")
        self.assertEqual(great_way(wide, STRAIGHT, 2, (0, 0), (0, 3)), (
            10, [(0, 0), (1, 0), (1, 1), (1, 2), (1, 3), (0, 3)]))
        self.assertEqual(great_way(wide, FREE, 2, (0, 0), (0, 3))[0], 10)

    def test_by_the_words(self):
        for place, floor in enumerate(scattered_floors(40, 5, 5, "#00000001")):
            walker = WALKERS[place % len(WALKERS)]
            for size in (1, 2, 3):
                self.assertGreat(floor, walker, size, all_costs(all_shrunk(floor, size), walker))

    def test_what_goes_for_a_greater_one_goes_for_a_smaller_one(self):
        for place, floor in enumerate(scattered_floors(40, 8, 8, "#000000000000001")):
            walker = WALKERS[place % len(WALKERS)]
            for size in (2, 3, 4):
                spots = sorted(heights_of(all_shrunk(floor, size)))
                for start, goal in zip(spots, reversed(spots)):
                    told = great_way(floor, walker, size, start, goal)
                    if told is not None:
                        for less in range(1, size):
                            small = shrunk(floor, less)
                            self.assertEqual(cost_of(small, walker, told[1]), told[0])
                            self.assertLessEqual(great_way(floor, walker, less, start, goal)[0], told[0])

    def test_by_size_one_it_is_the_least_way(self):
        floor = ("01#0", "0300", "##5#")
        for start, goal in product(heights_of(floor), heights_of(floor)):
            told, least = great_way(floor, FREE, 1, start, goal), least_way(floor, FREE, start, goal)
            self.assertEqual(told[0], least[0])

    def test_the_same_start_and_goal(self):
        self.assertEqual(great_way(("00", "00"), FREE, 2, (0, 0), (0, 0)), (0, [(0, 0)]))

    def test_no_size_comes_first(self):
        for size in NO_SIZES:
            for start in SIDES + [(0, 0)]:
                for goal in SIDES + [(0, 0)]:
                    self.assertRefused(NoSize, great_way, ("0#1", "000"), FREE, size, start, goal)

    def test_no_spot(self):
        floor = ("0#1", "000")
        for spot in SIDES:
            self.assertRefused(NoSpot, great_way, floor, FREE, 1, spot, (0, 0))
            self.assertRefused(NoSpot, great_way, floor, FREE, 1, (0, 0), spot)
        for spot in heights_of(floor):
            self.assertRefused(NoSpot, great_way, floor, FREE, 2, spot, spot)
        self.assertRefused(NoSpot, great_way, ("00", "00"), FREE, 2, (0, 0), (0, 1))
        self.assertRefused(NoSpot, great_way, ("00", "00"), FREE, 2, (1, 0), (0, 0))
        self.assertRefused(NoSpot, great_way, ("0",), FREE, 12, (0, 0), (0, 0))

    def test_great_floors(self):
        flat = ("4" * 12,) * 12
        self.assertEqual(great_way(flat, FREE, 6, (0, 0), (6, 6))[0], 18)
        self.assertEqual(great_way(flat, FREE, 12, (0, 0), (0, 0)), (0, [(0, 0)]))
        self.assertEqual(great_way(("0" * 14,) * 13, (True, 10, 4), 12, (0, 0), (1, 2))[0], 5)

    def test_told_lists_are_new(self):
        self.assertToldAnew(lambda: great_way(("000", "000"), FREE, 2, (0, 0), (0, 1)))
        self.assertToldAnew(lambda: great_way(("000", "000"), FREE, 1, (0, 0), (0, 0)))
