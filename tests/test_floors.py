import unittest
from copy import deepcopy
from itertools import product

from cellways.errors import FloorError, NoSpot, NoWay
from cellways.floors import cost_of, height_at, is_floor, is_walker, is_way, open_spots, steps_from
from tests.reckoning import (
    BIG, THINGS, WALKERS, all_steps, every_floor, heights_of, nested, scattered_floors,
)

FLAT = (False, 0, 0)
FREE = (True, 9, 3)


class Case(unittest.TestCase):
    def assertRefused(self, refusal, function, *arguments):
        with self.assertRaises(FloorError) as taken:
            function(*arguments)
        self.assertIs(type(taken.exception), refusal)

    def assertToldAnew(self, tell):
        kept = deepcopy(tell())
        spoil(tell())
        spoil(tell())
        self.assertEqual(tell(), kept)


def spoil(thing):
    """Changes each list in what was told."""
    if isinstance(thing, (list, tuple)):
        for part in thing:
            spoil(part)
    if isinstance(thing, list):
        thing.append("spoiled")
        thing.reverse()


class Floors(Case):
    def test_right_floors(self):
        right = [
            ("0",), ("#",), ("9",), ("0123456789#",), ("0", "#", "9"), ("12", "#3"), ("###", "###"),
            ("0" * 12,), ("#",) * 12, ("012345678#99",) * 12,
        ]
        for floor in right:
            self.assertIs(is_floor(floor), True, floor)

    def test_each_count_of_rows_and_columns(self):
        for rows, columns in product(range(15), range(15)):
            right = 1 <= rows <= 12 and 1 <= columns <= 12
            self.assertIs(is_floor(("5" * columns,) * rows), right, (rows, columns))

    def test_rows_of_unlike_lengths(self):
        for floor in [("00", "0"), ("0", "00"), ("00", "00", "000"), ("0", ""), ("", "0"), ("0", "0" * 13)]:
            self.assertIs(is_floor(floor), False, floor)

    def test_a_sign_that_is_none_at_any_place(self):
        rows = ["01#", "234", "#56"]
        for sign in [" ", "\n", "a", ".", "-", "/", ":", "\"", "$", "\u0663", "\u00b2", "\uff11", "\u2460"]:
            for row, column in product(range(3), range(3)):
                spoiled = list(rows)
                spoiled[row] = rows[row][:column] + sign + rows[row][column + 1:]
                self.assertIs(is_floor(tuple(spoiled)), False, spoiled)
            self.assertIs(is_floor((sign,)), False, sign)

    def test_other_things(self):
        others = [
            ["0"], ["00", "00"], (["0"],), (("0",),), (0,), (0, 0), ("0", 0), (0, "0"), ("0", None),
            ("0", True), ("0", ["0"]), ("0", ("0",)), (("0",), ("0",)), "000", BIG, (BIG,),
        ]
        for thing in THINGS + others:
            self.assertIs(is_floor(thing), False)

    def test_open_spots(self):
        self.assertEqual(open_spots(("0",)), [(0, 0)])
        self.assertEqual(open_spots(("#",)), [])
        self.assertEqual(open_spots(("0#1", "##9")), [(0, 0), (0, 2), (1, 2)])
        self.assertEqual(open_spots(("0" * 12,) * 12), list(product(range(12), range(12))))
        for floor in scattered_floors(60, 12, 12, "##0159"):
            self.assertEqual(open_spots(floor), sorted(heights_of(floor)))

    def test_height_at(self):
        floor = ("0123", "4#56", "7897")
        for spot, height in heights_of(floor).items():
            told = height_at(floor, spot)
            self.assertEqual(told, height)
            self.assertIs(type(told), int)

    def test_height_at_a_wall(self):
        self.assertRefused(NoSpot, height_at, ("0#", "00"), (0, 1))
        self.assertRefused(NoSpot, height_at, ("#",), (0, 0))

    def test_height_beside_the_floor(self):
        floor = ("012", "345")
        for row, column in product(range(-4, 6), range(-5, 7)):
            if 0 <= row < 2 and 0 <= column < 3:
                self.assertEqual(height_at(floor, (row, column)), 3 * row + column)
            else:
                self.assertRefused(NoSpot, height_at, floor, (row, column))
        for spot in [(BIG, 0), (0, BIG), (-BIG, 0), (0, -BIG)]:
            self.assertRefused(NoSpot, height_at, floor, spot)

    def test_floors_beyond_the_bounds_are_not_refused(self):
        floor = ("1" * 14,) * 13
        self.assertEqual(len(open_spots(floor)), 13 * 14)
        self.assertEqual(height_at(floor, (12, 13)), 1)
        self.assertEqual(steps_from(floor, FLAT, (12, 13)), [((11, 13), 2), ((12, 12), 2)])
        self.assertIs(is_way(floor, FLAT, [(12, 12), (12, 13)]), True)


class Walkers(Case):
    def test_each_part_at_its_bounds(self):
        for slants, climb, up in product((False, True), range(-2, 12), range(-2, 6)):
            right = 0 <= climb <= 9 and 0 <= up <= 3
            self.assertIs(is_walker((slants, climb, up)), right, (slants, climb, up))

    def test_numbers_far_beyond(self):
        for number in [BIG, -BIG, 100]:
            self.assertIs(is_walker((True, number, 0)), False)
            self.assertIs(is_walker((True, 0, number)), False)

    def test_a_truth_is_no_whole_number(self):
        for truth in [False, True]:
            self.assertIs(is_walker((True, truth, 0)), False)
            self.assertIs(is_walker((True, 0, truth)), False)
            self.assertIs(is_walker((True, truth, truth)), False)

    def test_a_whole_number_is_no_truth(self):
        for slants in [0, 1, 2, -1, None, "", "True", (), [], (True,), [True]]:
            self.assertIs(is_walker((slants, 0, 0)), False)

    def test_too_short_too_long_or_a_list(self):
        for thing in [(), (True,), (True, 0), (True, 0, 0, 0), (True, 0, 0, None), [True, 0, 0], ((True, 0, 0),)]:
            self.assertIs(is_walker(thing), False)

    def test_other_things(self):
        for part in THINGS:
            self.assertIs(is_walker(part), False)
            if type(part) is not int or part == BIG or part == -BIG:
                self.assertIs(is_walker((True, part, 0)), False)
                self.assertIs(is_walker((True, 0, part)), False)


class Steps(Case):
    def test_straight(self):
        floor = ("000", "000", "000")
        straight = [((0, 1), 2), ((1, 0), 2), ((1, 2), 2), ((2, 1), 2)]
        self.assertEqual(steps_from(floor, FLAT, (1, 1)), straight)
        self.assertEqual(steps_from(floor, FLAT, (0, 0)), [((0, 1), 2), ((1, 0), 2)])
        self.assertEqual(steps_from(("0",), FREE, (0, 0)), [])

    def test_slanting(self):
        floor = ("000", "000", "000")
        told = steps_from(floor, (True, 0, 0), (1, 1))
        self.assertEqual(told, [
            ((0, 0), 3), ((0, 1), 2), ((0, 2), 3), ((1, 0), 2), ((1, 2), 2), ((2, 0), 3), ((2, 1), 2), ((2, 2), 3),
        ])

    def test_slanting_past_walls(self):
        self.assertEqual(steps_from(("00", "00"), FREE, (0, 0)), [((0, 1), 2), ((1, 0), 2), ((1, 1), 3)])
        self.assertEqual(steps_from(("0#", "00"), FREE, (0, 0)), [((1, 0), 2)])
        self.assertEqual(steps_from(("00", "#0"), FREE, (0, 0)), [((0, 1), 2)])
        self.assertEqual(steps_from(("0#", "#0"), FREE, (0, 0)), [])
        self.assertEqual(steps_from(("#0", "00"), FREE, (0, 1)), [((1, 1), 2)])

    def test_slanting_past_heights(self):
        self.assertEqual(steps_from(("09", "90"), (True, 0, 3), (0, 0)), [((1, 1), 3)])

    def test_climb(self):
        for low, high in product(range(10), range(10)):
            floor = (f"{low}{high}",)
            for climb in range(10):
                expected = [((0, 1), 2)] if abs(low - high) <= climb else []
                self.assertEqual(steps_from(floor, (False, climb, 0), (0, 0)), expected)

    def test_slanting_climb(self):
        for climb in range(10):
            told = dict(steps_from(("00", "05"), (True, climb, 1), (0, 0)))
            self.assertEqual(told.get((1, 1)), 8 if climb >= 5 else None)

    def test_costs_up_and_down(self):
        for up in range(4):
            walker = (True, 9, up)
            self.assertEqual(steps_from(("27",), walker, (0, 0)), [((0, 1), 2 + 5 * up)])
            self.assertEqual(steps_from(("27",), walker, (0, 1)), [((0, 0), 2)])
            self.assertIn(((1, 1), 3 + 4 * up), steps_from(("00", "04"), walker, (0, 0)))
            self.assertIn(((0, 0), 3), steps_from(("00", "04"), walker, (1, 1)))

    def assertStepsReckoned(self, floor, walker):
        steps = all_steps(floor, walker)
        for spot in heights_of(floor):
            expected = sorted((other, cost) for (one, other), cost in steps.items() if one == spot)
            self.assertEqual(steps_from(floor, walker, spot), expected, (floor, walker, spot))

    def test_against_the_second_reckoning(self):
        for floor in every_floor(2, 2, "#026") + scattered_floors(40, 4, 5, "#00124"):
            for walker in WALKERS:
                self.assertStepsReckoned(floor, walker)

    def test_no_spot(self):
        floor = ("0#", "00")
        for row, column in product(range(-3, 5), range(-3, 5)):
            if (row, column) not in heights_of(floor):
                self.assertRefused(NoSpot, steps_from, floor, FREE, (row, column))
        self.assertRefused(NoSpot, steps_from, floor, FREE, (BIG, 0))

    def test_walkers_beyond_the_bounds_are_not_refused(self):
        self.assertEqual(steps_from(("09",), (False, 10, 4), (0, 0)), [((0, 1), 38)])


class Ways(Case):
    def assertNoWay(self, floor, walker, thing):
        self.assertIs(is_way(floor, walker, thing), False)
        self.assertRefused(NoWay, cost_of, floor, walker, thing)

    def assertWay(self, floor, walker, way, cost):
        self.assertIs(is_way(floor, walker, way), True)
        told = cost_of(floor, walker, way)
        self.assertEqual(told, cost)
        self.assertIs(type(told), int)

    def test_one_spot(self):
        floor = ("09", "#5")
        for spot in heights_of(floor):
            self.assertWay(floor, FLAT, [spot], 0)

    def test_several_spots(self):
        floor = ("013", "#00", "000")
        walker = (True, 2, 3)
        self.assertWay(floor, walker, [(0, 0), (0, 1)], 5)
        self.assertWay(floor, walker, [(0, 0), (0, 1), (0, 2)], 13)
        self.assertWay(floor, walker, [(0, 2), (0, 1), (0, 0)], 4)
        self.assertWay(floor, walker, [(1, 1), (2, 2)], 3)
        self.assertWay(floor, walker, [(0, 1), (1, 2), (2, 1), (2, 0)], 8)
        self.assertWay(floor, walker, [(1, 1), (1, 2), (1, 1), (1, 2)], 6)

    def test_steps_that_are_none(self):
        floor = ("013", "#00", "000")
        walker = (True, 2, 3)
        self.assertNoWay(floor, walker, [(0, 0), (0, 2)])
        self.assertNoWay(floor, walker, [(0, 0), (1, 1)])
        self.assertNoWay(floor, walker, [(0, 2), (1, 2)])
        self.assertNoWay(floor, walker, [(0, 0), (0, 1), (2, 1)])
        self.assertNoWay(floor, (False, 2, 3), [(1, 1), (2, 2)])
        self.assertNoWay(floor, (True, 0, 3), [(0, 0), (0, 1)])
        self.assertNoWay(floor, walker, [(2, 1), (1, 1), (0, 0)])

    def test_waits(self):
        self.assertNoWay(("00",), FREE, [(0, 0), (0, 0)])
        self.assertNoWay(("00",), FREE, [(0, 0), (0, 1), (0, 1)])

    def test_walls_and_spots_beside_the_floor(self):
        floor = ("00", "0#")
        for row, column in product(range(-3, 5), range(-3, 5)):
            spot = (row, column)
            if spot not in heights_of(floor):
                self.assertNoWay(floor, FREE, [spot])
                self.assertNoWay(floor, FREE, [(0, 0), spot])
                self.assertNoWay(floor, FREE, [spot, (0, 0)])

    def test_empty_lists_tuples_truths_and_lists(self):
        floor = ("00", "00")
        self.assertWay(floor, FREE, [(0, 0), (0, 1), (1, 0)], 5)
        wrong = [
            [], (), ((0, 0),), ((0, 0), (0, 1)), [[0, 0]], [[0, 0], [0, 1]], [(0, 0), [0, 1]],
            [(False, 0)], [(0, False)], [(0, 0), (0, True)], [(0, 0), (True, 0)], [(True, True), (0, 1)],
            [(0, 0, 0)], [(0,)], [()], [0, 0], (0, 0), ["00"], "00", [(0, 0), None], [None],
            [(0, 0), (0, 1), 7], [(0, (0,))], [([0], 0)], [((0, 0),)], [(0, 0), nested(10, True)],
        ]
        for thing in wrong:
            self.assertNoWay(floor, FREE, thing)

    def test_other_things(self):
        for thing in THINGS:
            for floor in [("0",), ("00", "00"), ("#",)]:
                self.assertNoWay(floor, FREE, thing)
            self.assertNoWay(("00", "00"), FREE, [(0, 0), thing])

    def test_all_short_lists_against_the_second_reckoning(self):
        for floor in [("0#", "13"), ("02", "00"), ("00", "#5")]:
            spots = list(product(range(-1, 3), range(-1, 3)))
            for walker in [(False, 1, 1), (True, 2, 3), (True, 9, 0)]:
                steps = all_steps(floor, walker)
                for way in product(spots, repeat=2):
                    if way in steps:
                        self.assertWay(floor, walker, list(way), steps[way])
                    else:
                        self.assertNoWay(floor, walker, list(way))


class Handed(Case):
    def test_told_lists_are_new(self):
        floor = ("01", "00")
        for tell in [lambda: open_spots(floor), lambda: steps_from(floor, FREE, (0, 0))]:
            self.assertToldAnew(tell)

    def test_what_is_handed_in_stays(self):
        floor = ("01", "00")
        for way in [[(0, 0), (0, 1)], [(0, 0), (0, 0)], [], [[0, 0], [True]]]:
            kept = deepcopy(way)
            is_way(floor, FREE, way)
            try:
                cost_of(floor, FREE, way)
            except NoWay:
                pass
            self.assertEqual(way, kept)

    def test_equal_parts_make_equal_things(self):
        floor = tuple(["".join(["0", "1"]), "".join(["0", "0"])])
        self.assertEqual(steps_from(floor, tuple([True, 9, 3]), tuple([0, 0])), steps_from(("01", "00"), FREE, (0, 0)))
