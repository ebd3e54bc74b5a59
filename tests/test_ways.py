from copy import deepcopy
from itertools import combinations, product

from cellways.errors import NoSpot
from cellways.floors import cost_of, is_way
from cellways.ways import distances_from, distances_to, is_paper, least_way
from tests.reckoning import (
    BIG, THINGS, WALKERS, all_costs, every_floor, fulfils_paper, heights_of, scattered_floors,
)
from tests.test_floors import Case

FREE = (True, 9, 3)
SIDES = [(-1, 0), (0, -1), (2, 0), (0, 3), (-2, -3), (BIG, 0), (0, -BIG)]


class LeastWays(Case):
    def assertLeast(self, floor, walker):
        costs = all_costs(floor, walker)
        for spot in heights_of(floor):
            behind = sorted((goal, cost) for (start, goal), cost in costs.items() if start == spot)
            ahead = sorted((start, cost) for (start, goal), cost in costs.items() if goal == spot)
            self.assertEqual(distances_from(floor, walker, spot), behind, (floor, walker, spot))
            self.assertEqual(distances_to(floor, walker, spot), ahead, (floor, walker, spot))
            for goal in heights_of(floor):
                self.assertLeastWay(floor, walker, spot, goal, costs.get((spot, goal)))

    def assertLeastWay(self, floor, walker, start, goal, cost):
        told = least_way(floor, walker, start, goal)
        if cost is None:
            self.assertIsNone(told)
            return
        self.assertIs(type(told), tuple)
        self.assertEqual(len(told), 2)
        self.assertEqual(told[0], cost, (floor, walker, start, goal))
        self.assertIs(is_way(floor, walker, told[1]), True)
        self.assertEqual((told[1][0], told[1][-1]), (start, goal))
        self.assertEqual(cost_of(floor, walker, told[1]), cost)

    def test_every_small_floor(self):
        for floor in every_floor(2, 2, "#03") + every_floor(1, 3, "#029"):
            for walker in WALKERS:
                self.assertLeast(floor, walker)

    def test_scattered_floors(self):
        for place, floor in enumerate(scattered_floors(120, 4, 5, "#0001135")):
            self.assertLeast(floor, WALKERS[place % len(WALKERS)])

    def test_a_way_round_costs_less_than_the_climb(self):
        floor = ("090", "000")
        self.assertEqual(least_way(floor, (False, 9, 1), (0, 0), (0, 2))[0], 8)
        self.assertEqual(least_way(floor, (False, 9, 0), (0, 0), (0, 2))[0], 4)
        self.assertEqual(least_way(floor, (True, 9, 3), (0, 0), (0, 2))[0], 6)

    def test_the_same_start_and_goal(self):
        for spot in [(0, 0), (1, 1)]:
            self.assertEqual(least_way(("0#", "#9"), FREE, spot, spot), (0, [spot]))

    def test_no_way(self):
        self.assertIsNone(least_way(("0#0",), FREE, (0, 0), (0, 2)))
        self.assertIsNone(least_way(("05",), (False, 4, 0), (0, 0), (0, 1)))
        self.assertIsNone(least_way(("0#", "#0"), FREE, (0, 0), (1, 1)))
        self.assertEqual(distances_from(("0#0",), FREE, (0, 2)), [((0, 2), 0)])
        self.assertEqual(distances_to(("0#0",), FREE, (0, 0)), [((0, 0), 0)])

    def test_from_and_to_are_unlike_where_climbing_costs(self):
        walker = (False, 9, 1)
        self.assertEqual(distances_from(("057",), walker, (0, 0)), [((0, 0), 0), ((0, 1), 7), ((0, 2), 11)])
        self.assertEqual(distances_to(("057",), walker, (0, 0)), [((0, 0), 0), ((0, 1), 2), ((0, 2), 4)])
        self.assertEqual(least_way(("057",), walker, (0, 0), (0, 2)), (11, [(0, 0), (0, 1), (0, 2)]))
        self.assertEqual(least_way(("057",), walker, (0, 2), (0, 0)), (4, [(0, 2), (0, 1), (0, 0)]))

    def test_great_floors(self):
        snake = ("0" * 12, "#" * 11 + "0", "0" * 12, "0" + "#" * 11) * 3
        told = least_way(snake, FREE, (0, 0), (10, 0))
        self.assertEqual(told[0], 2 * (6 * 11 + 5 * 2))
        self.assertEqual(len(told[1]), 77)
        flat = ("4" * 12,) * 12
        self.assertEqual(least_way(flat, FREE, (0, 0), (11, 11))[0], 33)
        self.assertEqual(least_way(flat, (False, 0, 0), (0, 0), (11, 11))[0], 44)
        self.assertEqual(len(distances_from(flat, FREE, (5, 5))), 144)

    def test_floors_and_walkers_beyond_the_bounds_are_not_refused(self):
        floor = ("0" * 13,) * 13
        self.assertEqual(least_way(floor, (True, 10, 4), (0, 0), (12, 12))[0], 36)
        self.assertEqual(least_way(("09",), (True, 10, 4), (0, 0), (0, 1))[0], 38)

    def test_no_spot(self):
        floor = ("0#1", "000")
        for spot in SIDES + [(0, 1)]:
            self.assertRefused(NoSpot, distances_from, floor, FREE, spot)
            self.assertRefused(NoSpot, distances_to, floor, FREE, spot)
            self.assertRefused(NoSpot, least_way, floor, FREE, spot, (0, 0))
            self.assertRefused(NoSpot, least_way, floor, FREE, (0, 0), spot)
            self.assertRefused(NoSpot, least_way, floor, FREE, spot, spot)

    def test_told_lists_are_new(self):
        floor = ("01", "00")
        tells = [
            lambda: distances_from(floor, FREE, (0, 0)),
            lambda: distances_to(floor, FREE, (0, 0)),
            lambda: least_way(floor, FREE, (0, 0), (0, 1))[1],
            lambda: least_way(floor, FREE, (0, 0), (0, 0))[1],
        ]
        for tell in tells:
            self.assertToldAnew(tell)


class Papers(Case):
    floor = ("01#0", "0300", "##5#")
    walker = (True, 3, 2)
    goal = (0, 0)

    def assertPaper(self, thing, right):
        self.assertIs(is_paper(self.floor, self.walker, self.goal, thing), right, thing)

    def right_paper(self):
        return distances_to(self.floor, self.walker, self.goal)

    def test_the_least_costs_are_a_paper(self):
        self.assertPaper(self.right_paper(), True)
        for place, floor in enumerate(scattered_floors(80, 4, 5, "#0001135")):
            walker = WALKERS[place % len(WALKERS)]
            for goal in heights_of(floor):
                self.assertIs(is_paper(floor, walker, goal, distances_to(floor, walker, goal)), True)

    def test_distances_from_are_none_where_climbing_costs(self):
        walker = (False, 9, 1)
        self.assertIs(is_paper(("05",), walker, (0, 0), distances_from(("05",), walker, (0, 0))), False)

    def test_more_for_any_spot_is_none(self):
        paper = self.right_paper()
        for place, (spot, number) in enumerate(paper):
            for more in [1, 2, BIG]:
                self.assertPaper(paper[:place] + [(spot, number + more)] + paper[place + 1:], False)

    def test_less_is_one_where_the_steps_allow_it(self):
        paper = self.right_paper()
        self.assertPaper([(spot, 0) for spot, _ in paper], True)
        self.assertPaper([(spot, number // 2) for spot, number in paper], True)
        seen = []
        for place, (spot, number) in enumerate(paper):
            for less in range(number):
                changed = paper[:place] + [(spot, less)] + paper[place + 1:]
                right = fulfils_paper(self.floor, self.walker, self.goal, changed)
                seen.append(right)
                self.assertPaper(changed, right)
        self.assertIn(True, seen)
        self.assertIn(False, seen)

    def test_below_zero(self):
        paper = self.right_paper()
        for place, (spot, number) in enumerate(paper):
            self.assertPaper(paper[:place] + [(spot, -1)] + paper[place + 1:], False)
        self.assertIs(is_paper(("0#0",), FREE, (0, 0), [((0, 0), 0), ((0, 2), -1)]), False)

    def test_an_entry_left_out_put_in_or_told_twice(self):
        paper = self.right_paper()
        for place, entry in enumerate(paper):
            self.assertPaper(paper[:place] + paper[place + 1:], False)
            self.assertPaper(paper[:place] + [entry] + paper[place:], False)
            self.assertPaper(paper[:place] + [(entry[0], 0)] + paper[place:], False)
        for spot in [(0, 2), (2, 0), (2, 1), (2, 3), (3, 0), (0, 4), (-1, 0)]:
            self.assertPaper(sorted(paper + [(spot, 0)]), False)
            self.assertPaper(sorted(paper + [(spot, 100)]), False)

    def test_entries_of_another_room(self):
        floor = ("0#00",)
        self.assertIs(is_paper(floor, FREE, (0, 0), [((0, 0), 0)]), True)
        self.assertIs(is_paper(floor, FREE, (0, 0), [((0, 0), 0), ((0, 2), 5), ((0, 3), 7)]), True)
        self.assertIs(is_paper(floor, FREE, (0, 0), [((0, 0), 0), ((0, 2), 5), ((0, 3), 8)]), False)
        self.assertIs(is_paper(floor, FREE, (0, 0), [((0, 0), 0), ((0, 2), 5)]), False)

    def test_out_of_order(self):
        paper = self.right_paper()
        self.assertPaper(list(reversed(paper)), False)
        for place in range(len(paper) - 1):
            swapped = paper[:place] + [paper[place + 1], paper[place]] + paper[place + 2:]
            self.assertPaper(swapped, False)

    def test_truths_are_no_numbers(self):
        paper = [((0, 0), 0), ((0, 1), 1), ((1, 0), 1), ((1, 1), 1)]
        floor = ("00", "00")
        self.assertIs(is_paper(floor, FREE, (0, 0), paper), True)
        for place, (spot, number) in enumerate(paper):
            ahead, behind = paper[:place], paper[place + 1:]
            self.assertIs(is_paper(floor, FREE, (0, 0), ahead + [(spot, bool(number))] + behind), False)
            for wrong in [(bool(spot[0]), spot[1]), (spot[0], bool(spot[1]))]:
                self.assertIs(is_paper(floor, FREE, (0, 0), ahead + [(wrong, number)] + behind), False)

    def test_lists_in_place_of_tuples(self):
        paper = self.right_paper()
        self.assertPaper(tuple(paper), False)
        self.assertPaper([list(entry) for entry in paper], False)
        for place, (spot, number) in enumerate(paper):
            ahead, behind = paper[:place], paper[place + 1:]
            wrong = [
                [spot, number], (list(spot), number), (spot, [number]), (spot, (number,)), (spot, str(number)),
                (spot, None), (spot,), (spot, number, 0), (number, spot), spot, number, None, (spot + (0,), number),
            ]
            for entry in wrong:
                self.assertPaper(ahead + [entry] + behind, False)

    def test_the_goal(self):
        for number in [1, 2, -1]:
            self.assertIs(is_paper(("0",), FREE, (0, 0), [((0, 0), number)]), False)
        self.assertIs(is_paper(("0",), FREE, (0, 0), []), False)
        self.assertIs(is_paper(("0#0",), FREE, (0, 0), [((0, 2), 0)]), False)
        for goal in SIDES + [(0, 1)]:
            self.assertIs(is_paper(("0#0", "000"), FREE, goal, []), False)
            self.assertIs(is_paper(("0#0", "000"), FREE, goal, [(goal, 0)]), False)
            self.assertIs(is_paper(("0#0", "000"), FREE, goal, distances_to(("0#0", "000"), FREE, (0, 0))), False)

    def test_other_things(self):
        for thing in THINGS:
            self.assertPaper(thing, False)
            self.assertPaper([(self.goal, thing)], False)
            self.assertPaper([(thing, 0)], False)
            self.assertPaper(self.right_paper() + [thing], False)

    def test_all_small_papers_against_the_second_reckoning(self):
        walkers = [(False, 1, 1), (True, 0, 0), (True, 9, 1)]
        for floor, walker in product([("01",), ("0#1",), ("000",), ("10", "#0"), ("0", "2")], walkers):
            spots = sorted(heights_of(floor))
            costs = all_costs(floor, walker)
            for how_many in range(len(spots) + 1):
                for chosen, numbers in product(combinations(spots, how_many), product(range(6), repeat=how_many)):
                    self.assertReckoned(floor, walker, list(zip(chosen, numbers)), costs)

    def assertReckoned(self, floor, walker, thing, costs):
        for goal in heights_of(floor):
            right = fulfils_paper(floor, walker, goal, thing)
            self.assertIs(is_paper(floor, walker, goal, thing), right, (floor, walker, goal, thing))
            if right:
                numbers = dict(thing)
                for spot in heights_of(floor):
                    if (spot, goal) in costs:
                        self.assertLessEqual(numbers[spot], costs[spot, goal])

    def test_what_is_handed_in_stays(self):
        for thing in [self.right_paper(), list(reversed(self.right_paper())), [[(0, 0), 0]], []]:
            kept = deepcopy(thing)
            is_paper(self.floor, self.walker, self.goal, thing)
            self.assertEqual(thing, kept)
