from copy import deepcopy
from itertools import combinations

from cellways.errors import NoSpot
from cellways.fields import field, lead, nearest_goals
from cellways.floors import cost_of, is_way
from cellways.ways import distances_to
from tests.reckoning import (
    BIG, WALKERS, all_costs, drawer, every_floor, fields_of, heights_of, scattered_floors,
)
from tests.test_floors import Case

FREE = (True, 9, 3)
STRAIGHT = (False, 9, 0)
SIDES = [(-1, 0), (0, -1), (2, 0), (0, 3), (-2, -3), (BIG, 0), (0, -BIG), (0, 1)]


class FieldCase(Case):
    def assertField(self, floor, walker, goals, costs):
        expected = fields_of(floor, walker, goals, costs)
        told = field(floor, walker, goals)
        self.assertEqual(told, [(spot, *expected[spot]) for spot in sorted(expected)], (floor, walker, goals))
        for entry in told:
            self.assertIs(type(entry), tuple)
        for start in heights_of(floor):
            self.assertLead(floor, walker, goals, start, expected)
            ends = [goal for goal in goals if (start, goal) in costs]
            near = sorted({goal for goal in ends if costs[start, goal] == expected[start][0]})
            self.assertEqual(nearest_goals(floor, walker, goals, start), near, (floor, walker, goals, start))

    def assertLead(self, floor, walker, goals, start, expected):
        way = lead(floor, walker, goals, start)
        if start not in expected:
            self.assertIsNone(way)
            return
        self.assertIs(is_way(floor, walker, way), True)
        self.assertEqual(way[0], start)
        self.assertIn(way[-1], goals)
        self.assertEqual(cost_of(floor, walker, way), expected[start][0])
        self.assertEqual(way[1:] + [None], [expected[spot][1] for spot in way], (floor, walker, goals, start))
        self.assertIn(way[-1], nearest_goals(floor, walker, goals, start))


class Fields(FieldCase):
    def test_a_few(self):
        self.assertEqual(field(("0",), FREE, [(0, 0)]), [((0, 0), 0, None)])
        self.assertEqual(field(("0000#0",), FREE, [(0, 0), (0, 3)]), [
            ((0, 0), 0, None), ((0, 1), 2, (0, 0)), ((0, 2), 2, (0, 3)), ((0, 3), 0, None),
        ])
        self.assertEqual(field(("00", "00"), STRAIGHT, [(0, 0)]), [
            ((0, 0), 0, None), ((0, 1), 2, (0, 0)), ((1, 0), 2, (0, 0)), ((1, 1), 4, (0, 1)),
        ])
        self.assertEqual(field(("00", "00"), STRAIGHT, [(1, 1)]), [
            ((0, 0), 4, (0, 1)), ((0, 1), 2, (1, 1)), ((1, 0), 2, (1, 1)), ((1, 1), 0, None),
        ])
        self.assertEqual(field(("000",), STRAIGHT, [(0, 2), (0, 0)])[1], ((0, 1), 2, (0, 0)))

    def test_costs_are_those_of_the_way_to_the_goal(self):
        walker = (False, 9, 1)
        self.assertEqual(field(("09",), walker, [(0, 0)]), [((0, 0), 0, None), ((0, 1), 2, (0, 0))])
        self.assertEqual(field(("09",), walker, [(0, 1)]), [((0, 0), 11, (0, 1)), ((0, 1), 0, None)])
        self.assertEqual(nearest_goals(("905",), walker, [(0, 0), (0, 2)], (0, 1)), [(0, 2)])
        self.assertEqual(nearest_goals(("090",), walker, [(0, 0), (0, 2)], (0, 1)), [(0, 0), (0, 2)])
        self.assertEqual(nearest_goals(("092",), walker, [(0, 0), (0, 2)], (0, 1)), [(0, 0), (0, 2)])

    def test_one_goal_is_as_the_distances_to_it(self):
        for place, floor in enumerate(scattered_floors(40, 5, 6, "#0001135")):
            walker = WALKERS[place % len(WALKERS)]
            for goal in heights_of(floor):
                told = [(spot, cost) for spot, cost, _ in field(floor, walker, [goal])]
                self.assertEqual(told, distances_to(floor, walker, goal))

    def test_the_same_goal_twice(self):
        floor = ("0010", "0#00")
        for walker in WALKERS:
            once, twice = [(0, 0), (1, 3)], [(1, 3), (0, 0), (1, 3), (0, 0)]
            self.assertEqual(field(floor, walker, twice), field(floor, walker, once))
            for start in heights_of(floor):
                self.assertEqual(lead(floor, walker, twice, start), lead(floor, walker, once, start))
                self.assertEqual(
                    nearest_goals(floor, walker, twice, start), nearest_goals(floor, walker, once, start))
        self.assertEqual(nearest_goals(("0",), FREE, [(0, 0), (0, 0)], (0, 0)), [(0, 0)])

    def test_no_way_to_a_goal(self):
        floor = ("0#0", "##0")
        self.assertEqual(field(floor, FREE, [(0, 2)]), [((0, 2), 0, None), ((1, 2), 2, (0, 2))])
        self.assertIsNone(lead(floor, FREE, [(0, 2), (1, 2)], (0, 0)))
        self.assertEqual(nearest_goals(floor, FREE, [(0, 2), (1, 2)], (0, 0)), [])
        self.assertEqual(nearest_goals(floor, FREE, [(0, 2), (0, 0)], (0, 0)), [(0, 0)])

    def test_several_nearest_goals(self):
        flat = ("000", "000", "000")
        corners = [(2, 2), (0, 0), (2, 0), (0, 2)]
        self.assertEqual(nearest_goals(flat, FREE, corners, (1, 1)), sorted(corners))
        self.assertEqual(nearest_goals(flat, FREE, corners, (0, 1)), [(0, 0), (0, 2)])
        self.assertEqual(nearest_goals(flat, FREE, corners, (2, 2)), [(2, 2)])
        self.assertEqual(lead(flat, FREE, corners, (1, 1)), [(1, 1), (0, 0)])
        self.assertEqual(lead(flat, STRAIGHT, corners, (1, 1)), [(1, 1), (0, 1), (0, 0)])
        self.assertEqual(lead(flat, FREE, corners, (2, 0)), [(2, 0)])

    def test_every_small_floor(self):
        for floor in every_floor(2, 2, "#02") + every_floor(1, 4, "#04"):
            for walker in [(False, 9, 1), (True, 2, 3), (True, 1, 0)]:
                costs = all_costs(floor, walker)
                for how_many in (1, 2):
                    for goals in combinations(sorted(heights_of(floor)), how_many):
                        self.assertField(floor, walker, list(goals), costs)

    def test_scattered_floors(self):
        draw = drawer(7)
        for place, floor in enumerate(scattered_floors(150, 4, 5, "#0001135")):
            walker = WALKERS[place % len(WALKERS)]
            spots = sorted(heights_of(floor))
            if spots:
                costs = all_costs(floor, walker)
                for how_many in (1, 2, 4):
                    self.assertField(floor, walker, [spots[draw(len(spots))] for _ in range(how_many)], costs)

    def test_great_floors(self):
        flat = ("4" * 12,) * 12
        told = field(flat, FREE, [(0, 0), (11, 11)])
        self.assertEqual(len(told), 144)
        self.assertEqual(told[11], ((0, 11), 22, (0, 10)))
        self.assertEqual(field(flat, FREE, sorted(heights_of(flat)))[100][1:], (0, None))
        beyond = ("0" * 14,) * 13
        self.assertEqual(field(beyond, (True, 10, 4), [(12, 13)])[0], ((0, 0), 38, (0, 1)))
        self.assertEqual(len(lead(beyond, (True, 10, 4), [(12, 13)], (0, 0))), 14)
        self.assertEqual(nearest_goals(beyond, (True, 10, 4), [(12, 13), (12, 12)], (0, 0)), [(12, 12)])

    def test_no_goals(self):
        self.assertRefused(NoSpot, field, ("0",), FREE, [])
        self.assertRefused(NoSpot, lead, ("0",), FREE, [], (0, 0))
        self.assertRefused(NoSpot, nearest_goals, ("0",), FREE, [], (0, 0))

    def test_spots_that_are_not_open(self):
        floor = ("0#1", "000")
        for spot in SIDES:
            for goals in [[spot], [spot, (0, 0)], [(0, 0), spot], [(0, 0), (1, 1), spot, (0, 2)]]:
                self.assertRefused(NoSpot, field, floor, FREE, goals)
                self.assertRefused(NoSpot, lead, floor, FREE, goals, (0, 0))
                self.assertRefused(NoSpot, nearest_goals, floor, FREE, goals, (0, 0))
            self.assertRefused(NoSpot, lead, floor, FREE, [(0, 0)], spot)
            self.assertRefused(NoSpot, nearest_goals, floor, FREE, [(0, 0)], spot)
            self.assertRefused(NoSpot, lead, floor, FREE, [spot], spot)
            self.assertRefused(NoSpot, nearest_goals, floor, FREE, [spot], spot)
            self.assertRefused(NoSpot, lead, floor, FREE, [], spot)
            self.assertRefused(NoSpot, nearest_goals, floor, FREE, [], spot)

    def test_told_lists_are_new(self):
        floor, goals = ("010", "000"), [(1, 2), (0, 0)]
        for tell in [
            lambda: field(floor, FREE, goals), lambda: lead(floor, FREE, goals, (0, 1)),
            lambda: lead(floor, FREE, goals, (0, 0)), lambda: nearest_goals(floor, FREE, goals, (0, 1)),
        ]:
            self.assertToldAnew(tell)
        self.assertEqual(goals, [(1, 2), (0, 0)])

    def test_what_is_handed_in_stays(self):
        floor = ("010", "000")
        for goals in [[(1, 2), (0, 0), (1, 2)], [(1, 1)], [(1, 2), (7, 7), (0, 0)], []]:
            kept = deepcopy(goals)
            for ask in [
                lambda: field(floor, FREE, goals), lambda: lead(floor, FREE, goals, (0, 1)),
                lambda: nearest_goals(floor, FREE, goals, (0, 1)),
            ]:
                try:
                    spoilt = ask()
                    spoilt.clear()
                except NoSpot:
                    pass
                self.assertEqual(goals, kept)
