from collections import Counter
from itertools import product

from cellways.errors import NoFit, NoSpot
from cellways.floors import cost_of, is_floor
from cellways.grounds import (
    heights_in, mirrored_floor, peaks, set_below, set_beside, spot_mirrored, spot_turned, turned_floor, walls_in,
)
from cellways.ways import distances_from, least_way
from tests.reckoning import BIG, WALKERS, every_floor, heights_of, scattered_floors
from tests.test_floors import Case

FLOORS = scattered_floors(60, 7, 8, "##00112359") + every_floor(2, 2, "#01") + every_floor(1, 3, "#09")
SIDES = [(-1, 0), (0, -1), (2, 0), (0, 3), (-2, -3), (BIG, 0), (0, -BIG), (0, 1)]


class Grounds(Case):
    def test_heights_in(self):
        self.assertEqual(heights_in(("0",)), [(0, 1)])
        self.assertEqual(heights_in(("#",)), [])
        self.assertEqual(heights_in(("##", "##")), [])
        self.assertEqual(heights_in(("909", "#99")), [(0, 1), (9, 4)])
        self.assertEqual(heights_in(("9876543210",)), [(height, 1) for height in range(10)])
        self.assertEqual(heights_in(("4" * 12,) * 12), [(4, 144)])
        for floor in FLOORS:
            self.assertEqual(heights_in(floor), sorted(Counter(heights_of(floor).values()).items()))
            self.assertTrue(all(type(entry) is tuple for entry in heights_in(floor)))

    def test_walls_in(self):
        self.assertEqual(walls_in(("0",)), 0)
        self.assertEqual(walls_in(("#",)), 1)
        self.assertEqual(walls_in(("##0", "#9#")), 4)
        self.assertEqual(walls_in(("#" * 12,) * 12), 144)
        for floor in FLOORS:
            self.assertEqual(walls_in(floor) + len(heights_of(floor)), len(floor) * len(floor[0]))

    def test_peaks(self):
        self.assertEqual(peaks(("0",)), [(0, 0)])
        self.assertEqual(peaks(("#",)), [])
        self.assertEqual(peaks(("##", "##")), [])
        self.assertEqual(peaks(("01",)), [(0, 1)])
        self.assertEqual(peaks(("11",)), [(0, 0), (0, 1)])
        self.assertEqual(peaks(("0#1",)), [(0, 0), (0, 2)])
        self.assertEqual(peaks(("10", "02")), [(0, 0), (1, 1)])
        self.assertEqual(peaks(("000", "090", "000")), [(0, 0), (0, 2), (1, 1), (2, 0), (2, 2)])
        self.assertEqual(peaks(("211", "122")), [(0, 0), (1, 1), (1, 2)])
        self.assertEqual(peaks(("0110",)), [(0, 1), (0, 2)])
        self.assertEqual(peaks(("3", "3", "4", "#", "0")), [(0, 0), (2, 0), (4, 0)])

    def test_peaks_by_the_words(self):
        for floor in FLOORS:
            heights = heights_of(floor)
            expected = [
                (row, column) for row, column in sorted(heights) if not any(
                    heights.get(side, -1) > heights[row, column]
                    for side in [(row - 1, column), (row + 1, column), (row, column - 1), (row, column + 1)])
            ]
            self.assertEqual(peaks(floor), expected, floor)

    def test_told_lists_are_new(self):
        for floor in [("01", "#0"), ("#",)]:
            self.assertToldAnew(lambda: heights_in(floor))
            self.assertToldAnew(lambda: peaks(floor))


class Turned(Case):
    def test_a_few(self):
        self.assertEqual(turned_floor(("0",)), ("0",))
        self.assertEqual(turned_floor(("012",)), ("0", "1", "2"))
        self.assertEqual(turned_floor(("0", "1", "2")), ("210",))
        self.assertEqual(turned_floor(("012", "#45")), ("#0", "41", "52"))
        self.assertEqual(mirrored_floor(("0",)), ("0",))
        self.assertEqual(mirrored_floor(("012", "#45")), ("210", "54#"))
        self.assertEqual(mirrored_floor(("0", "1")), ("0", "1"))

    def test_the_first_row_becomes_the_last_column(self):
        for floor in FLOORS:
            turned = turned_floor(floor)
            self.assertEqual("".join(row[-1] for row in turned), floor[0])
            self.assertEqual("".join(row[0] for row in turned), floor[-1])
            self.assertIs(is_floor(turned), True)
            self.assertIs(is_floor(mirrored_floor(floor)), True)

    def test_four_times_and_twice(self):
        for floor in FLOORS + [("0" * 14,) * 13]:
            turned = [floor]
            for _ in range(4):
                turned.append(turned_floor(turned[-1]))
            self.assertEqual(turned[4], floor)
            self.assertEqual(turned[2], tuple(row[::-1] for row in reversed(floor)))
            self.assertEqual(mirrored_floor(mirrored_floor(floor)), floor)
            self.assertEqual(mirrored_floor(turned[1]), turned_floor(turned_floor(turned_floor(mirrored_floor(floor)))))

    def test_where_spots_come_to(self):
        self.assertEqual(spot_turned(("012", "#45"), (0, 0)), (0, 1))
        self.assertEqual(spot_turned(("012", "#45"), (0, 2)), (2, 1))
        self.assertEqual(spot_turned(("012", "#45"), (1, 2)), (2, 0))
        self.assertEqual(spot_mirrored(("012", "#45"), (0, 0)), (0, 2))
        self.assertEqual(spot_mirrored(("012", "#45"), (1, 1)), (1, 1))
        self.assertEqual(spot_mirrored(("012", "#45"), (1, 2)), (1, 0))
        for floor in FLOORS:
            heights = heights_of(floor)
            for function, other in [(spot_turned, turned_floor(floor)), (spot_mirrored, mirrored_floor(floor))]:
                come = {function(floor, spot): height for spot, height in heights.items()}
                self.assertEqual(come, heights_of(other), floor)

    def test_each_spot_by_its_own(self):
        floor = ("0123", "4567", "89#0")
        signs = {(row, column): sign for row, line in enumerate(floor) for column, sign in enumerate(line)}
        for spot, sign in signs.items():
            if sign != "#":
                row, column = spot_turned(floor, spot)
                self.assertEqual(turned_floor(floor)[row][column], sign)
                row, column = spot_mirrored(floor, spot)
                self.assertEqual(mirrored_floor(floor)[row][column], sign)

    def test_no_spot(self):
        for spot in SIDES:
            self.assertRefused(NoSpot, spot_turned, ("0#1", "000"), spot)
            self.assertRefused(NoSpot, spot_mirrored, ("0#1", "000"), spot)
        self.assertRefused(NoSpot, spot_turned, ("0", "0", "0"), (0, 1))
        self.assertRefused(NoSpot, spot_mirrored, ("0", "0", "0"), (0, 2))

    def test_ways_cost_what_they_cost(self):
        for place, floor in enumerate(scattered_floors(60, 5, 6, "#0001135")):
            walker = WALKERS[place % len(WALKERS)]
            for floor_by, spot_by in [(turned_floor, spot_turned), (mirrored_floor, spot_mirrored)]:
                other = floor_by(floor)
                spots = sorted(heights_of(floor))
                for start, goal in zip(spots, reversed(spots)):
                    come = sorted((spot_by(floor, spot), cost) for spot, cost in distances_from(floor, walker, start))
                    self.assertEqual(distances_from(other, walker, spot_by(floor, start)), come)
                    told = least_way(floor, walker, start, goal)
                    if told is not None:
                        way = [spot_by(floor, spot) for spot in told[1]]
                        self.assertEqual(cost_of(other, walker, way), told[0])


class PutTogether(Case):
    def test_a_few(self):
        self.assertEqual(set_below(("01", "23"), ("4#",)), ("01", "23", "4#"))
        self.assertEqual(set_below(("4#",), ("01", "23")), ("4#", "01", "23"))
        self.assertEqual(set_beside(("01", "23"), ("4", "#")), ("014", "23#"))
        self.assertEqual(set_beside(("4", "#"), ("01", "23")), ("401", "#23"))
        self.assertEqual(set_below(("0",), ("0",)), ("0", "0"))
        self.assertEqual(set_beside(("0",), ("0",)), ("00",))

    def test_each_count_of_rows_and_columns(self):
        counts = [1, 2, 5, 6, 7, 10, 11, 12]
        for rows, columns, more_rows, more_columns in product(counts, repeat=4):
            one, other = ("1" * columns,) * rows, ("2" * more_columns,) * more_rows
            if columns == more_columns and rows + more_rows <= 12:
                told = set_below(one, other)
                self.assertEqual(told, one + other)
                self.assertIs(is_floor(told), True)
            else:
                self.assertRefused(NoFit, set_below, one, other)
            if rows == more_rows and columns + more_columns <= 12:
                told = set_beside(one, other)
                self.assertEqual(told, ("1" * columns + "2" * more_columns,) * rows)
                self.assertIs(is_floor(told), True)
            else:
                self.assertRefused(NoFit, set_beside, one, other)

    def test_one_floor_with_itself(self):
        floor = ("01", "#2")
        self.assertEqual(set_below(floor, floor), ("01", "#2", "01", "#2"))
        self.assertEqual(set_beside(floor, floor), ("0101", "#2#2"))
        self.assertEqual(floor, ("01", "#2"))

    def test_turned_beside_is_below(self):
        for one, other in product([("01", "2#")], [("34", "56"), ("34",), ("7", "8")]):
            if len(one[0]) == len(other[0]):
                turned = set_beside(turned_floor(other), turned_floor(one))
                self.assertEqual(turned_floor(set_below(one, other)), turned)
