from copy import deepcopy
from itertools import permutations, product

from cellways.crowds import crowd, is_plan
from cellways.errors import NoSpot
from cellways.ways import least_way
from tests.reckoning import (
    BIG, THINGS, WALKERS, all_steps, are_apart, drawer, earliest_time, every_floor, heights_of, nested,
    scattered_floors, ways_in_time,
)
from tests.test_floors import Case

FREE = (True, 9, 3)
STRAIGHT = (False, 9, 0)
SIDES = [(-1, 0), (0, -1), (2, 0), (0, 3), (-2, -3), (BIG, 0), (0, -BIG), (0, 1)]


def is_right_plan(floor, walker, starts, goals, plan):
    """Whether entries, each None or a list of open spots, are a plan, by the words of 7.3."""
    steps = all_steps(floor, walker)
    for start, goal, way in zip(starts, goals, plan):
        if way is not None:
            if not way or way[0] != start or way[-1] != goal:
                return False
            if not all(one == other or (one, other) in steps for one, other in zip(way, way[1:])):
                return False
    ways = [way for way in plan if way is not None]
    return all(are_apart(one, other) for place, one in enumerate(ways) for other in ways[:place])


class CrowdCase(Case):
    def assertCrowd(self, floor, walker, starts, goals):
        told = crowd(floor, walker, starts, goals)
        said = (floor, walker, starts, goals)
        self.assertIs(type(told), list)
        self.assertEqual(len(told), len(starts))
        self.assertTrue(is_right_plan(floor, walker, starts, goals, told), said)
        self.assertIs(is_plan(floor, walker, starts, goals, told), True, said)
        ahead = []
        for start, goal, way in zip(starts, goals, told):
            time = earliest_time(floor, walker, start, goal, ahead)
            self.assertEqual(None if way is None else len(way) - 1, time, said)
            if way is not None:
                self.assertIs(type(way), list)
                ahead.append(way)
        return told

    def times(self, floor, walker, starts, goals):
        return [None if way is None else len(way) - 1 for way in self.assertCrowd(floor, walker, starts, goals)]


class Crowds(CrowdCase):
    def test_no_walkers(self):
        for floor in [("0",), ("#",), ("00", "00")]:
            self.assertEqual(crowd(floor, FREE, [], []), [])

    def test_one_walker(self):
        self.assertEqual(crowd(("0",), FREE, [(0, 0)], [(0, 0)]), [[(0, 0)]])
        self.assertEqual(crowd(("000",), FREE, [(0, 0)], [(0, 2)]), [[(0, 0), (0, 1), (0, 2)]])
        self.assertEqual(crowd(("0#0",), FREE, [(0, 0)], [(0, 2)]), [None])
        self.assertEqual(crowd(("05",), (True, 4, 0), [(0, 0)], [(0, 1)]), [None])
        self.assertEqual(crowd(("00", "00"), FREE, [(0, 0)], [(1, 1)]), [[(0, 0), (1, 1)]])

    def test_times_count_and_not_costs(self):
        floor, walker = ("090", "000"), (False, 9, 3)
        self.assertEqual(least_way(floor, walker, (0, 0), (0, 2))[0], 8)
        self.assertEqual(crowd(floor, walker, [(0, 0)], [(0, 2)]), [[(0, 0), (0, 1), (0, 2)]])

    def test_those_who_would_exchange_spots(self):
        self.assertEqual(crowd(("00",), FREE, [(0, 0), (0, 1)], [(0, 1), (0, 0)]), [[(0, 0), (0, 1)], None])
        told = crowd(("00", "00"), STRAIGHT, [(0, 0), (0, 1)], [(0, 1), (0, 0)])
        self.assertEqual(told, [[(0, 0), (0, 1)], [(0, 1), (1, 1), (1, 0), (0, 0)]])
        told = crowd(("000", "#0#"), STRAIGHT, [(0, 0), (0, 2)], [(0, 2), (0, 0)])
        self.assertEqual(told, [[(0, 0), (0, 1), (0, 2)], None])

    def test_those_who_cross_slanting_keep_apart(self):
        starts, goals = [(0, 0), (0, 1)], [(1, 1), (1, 0)]
        self.assertEqual(crowd(("00", "00"), FREE, starts, goals), [[(0, 0), (1, 1)], [(0, 1), (1, 0)]])

    def test_those_who_go_round_one_behind_the_other(self):
        floor = ("00", "00")
        round_about = [(0, 0), (0, 1), (1, 1), (1, 0)]
        told = crowd(floor, STRAIGHT, round_about, round_about[1:] + round_about[:1])
        self.assertEqual([len(way) for way in told], [2, 2, 2, 2])
        self.assertEqual(crowd(("0000",), FREE, [(0, 0), (0, 1)], [(0, 1), (0, 2)]), [
            [(0, 0), (0, 1)], [(0, 1), (0, 2)]])

    def test_those_who_wait_for_another(self):
        floor = ("000", "#0#")
        told = self.times(floor, STRAIGHT, [(0, 0), (1, 1)], [(0, 2), (0, 0)])
        self.assertEqual(told, [2, 3])
        told = crowd(("0000", "#0##"), STRAIGHT, [(0, 0), (1, 1)], [(0, 3), (0, 1)])
        self.assertEqual(told, [[(0, 0), (0, 1), (0, 2), (0, 3)], [(1, 1), (1, 1), (0, 1)]])

    def test_a_goal_that_is_crossed_by_one_ahead(self):
        floor = ("00000", "##0##")
        told = self.times(floor, STRAIGHT, [(0, 0), (0, 2)], [(0, 4), (0, 2)])
        self.assertEqual(told, [4, 3])
        self.assertEqual(crowd(floor, STRAIGHT, [(0, 2), (0, 0)], [(0, 2), (0, 4)]), [[(0, 2)], None])
        self.assertEqual(self.times(("00000",), STRAIGHT, [(0, 0), (0, 2)], [(0, 4), (0, 2)]), [4, None])

    def test_one_that_is_run_over_has_no_way(self):
        self.assertEqual(crowd(("000",), FREE, [(0, 0), (0, 1)], [(0, 1), (0, 0)])[1], None)
        self.assertEqual(crowd(("00",), FREE, [(0, 0), (0, 1)], [(0, 1), (0, 0)])[1], None)

    def test_one_without_a_way_is_nowhere(self):
        told = crowd(("00#0",), FREE, [(0, 0), (0, 1)], [(0, 3), (0, 0)])
        self.assertEqual(told, [None, [(0, 1), (0, 0)]])
        told = crowd(("000#0",), FREE, [(0, 1), (0, 0)], [(0, 4), (0, 2)])
        self.assertEqual(told, [None, [(0, 0), (0, 1), (0, 2)]])
        told = crowd(("00",), FREE, [(0, 0), (0, 1)], [(0, 1), (0, 0)])
        self.assertEqual(told, [[(0, 0), (0, 1)], None])
        told = crowd(("000",), FREE, [(0, 0), (0, 1), (0, 2)], [(0, 1), (0, 0), (0, 2)])
        self.assertEqual(told, [[(0, 0), (0, 1)], None, [(0, 2)]])

    def test_walkers_at_their_goals(self):
        floor = ("00", "0#")
        spots = sorted(heights_of(floor))
        self.assertEqual(crowd(floor, FREE, spots, spots), [[spot] for spot in spots])

    def test_every_order_on_small_floors(self):
        floors = [("000",), ("00", "00"), ("000", "#0#"), ("0#", "00"), ("020", "0#0")]
        for floor, walker in product(floors, [(False, 9, 0), (True, 9, 0), (True, 1, 2)]):
            spots = sorted(heights_of(floor))[:4]
            for how_many in (2, 3):
                for starts, goals in product(permutations(spots, how_many), permutations(spots, how_many)):
                    self.assertCrowd(floor, walker, list(starts), list(goals))

    def test_every_way_in_time_that_is_shorter(self):
        for floor, walker in product([("000", "#0#"), ("000", "000"), ("0000", "#0##")], [FREE, STRAIGHT]):
            spots = sorted(heights_of(floor))
            for starts, goals in product([spots[:2], spots[-2:], spots[1:3]], permutations(spots[:3], 2)):
                told = self.assertCrowd(floor, walker, starts, list(goals))
                if told[0] is not None:
                    last = 5 if told[1] is None else len(told[1]) - 2
                    for time in range(min(last, 4) + 1):
                        for way in ways_in_time(floor, walker, starts[1], time):
                            self.assertFalse(way[-1] == goals[1] and are_apart(way, told[0]), (floor, starts, goals))

    def test_scattered_floors(self):
        draw = drawer(31)
        seen = []
        for place, floor in enumerate(scattered_floors(220, 5, 5, "##0000000012")):
            walker = WALKERS[place % len(WALKERS)]
            how_many = min(len(heights_of(floor)), 1 + draw(6))
            starts, goals = [
                [place for _, place in sorted((draw(1000), spot) for spot in heights_of(floor))][:how_many]
                for _ in range(2)
            ]
            told = self.assertCrowd(floor, walker, starts, goals)
            ways = [way for way in told if way is not None]
            seen += [None in told[:-1], any(one == other for way in ways for one, other in zip(way, way[1:]))]
        self.assertGreater(seen.count(True), 20)

    def test_long_waits(self):
        snake = ("0" * 12, "#" * 11 + "0", "0" * 12, "0" + "#" * 11) * 3
        told = crowd(snake, STRAIGHT, [(0, 0), (10, 0), (10, 1)], [(10, 11), (10, 0), (0, 0)])
        self.assertEqual([None if way is None else len(way) for way in told], [66, 1, None])
        told = crowd(snake, STRAIGHT, [(0, 1), (0, 0)], [(11, 0), (10, 0)])
        self.assertEqual([len(way) for way in told], [77, 77])
        bay = ("0" * 12, "#" * 5 + "0" + "#" * 6)
        told = crowd(bay, STRAIGHT, [(0, 0), (0, 5)], [(0, 11), (0, 0)])
        self.assertEqual([len(way) for way in told], [12, 12])
        self.assertIs(is_plan(bay, STRAIGHT, [(0, 0), (0, 5)], [(0, 11), (0, 0)], told), True)

    def test_a_full_floor(self):
        flat = ("4" * 12,) * 12
        spots = sorted(heights_of(flat))
        told = crowd(flat, FREE, spots, spots[1:] + spots[:1])
        self.assertEqual([way for way in told[:11]], [[spots[place], spots[place + 1]] for place in range(11)])
        self.assertIs(is_plan(flat, FREE, spots, spots[1:] + spots[:1], told), True)

    def test_floors_and_walkers_beyond_the_bounds_are_not_refused(self):
        told = crowd(("0" * 14,) * 13, (True, 10, 4), [(0, 0), (12, 13)], [(12, 13), (0, 0)])
        self.assertEqual(len(told[0]), 14)
        self.assertIs(is_plan(("0" * 14,) * 13, (True, 10, 4), [(0, 0), (12, 13)], [(12, 13), (0, 0)], told), True)
        self.assertEqual(crowd(("09",), (False, 10, 4), [(0, 0)], [(0, 1)]), [[(0, 0), (0, 1)]])

    def test_like_starts_and_like_goals_are_kept_apart(self):
        floor = ("000", "000")
        self.assertEqual(self.times(floor, FREE, [(0, 0), (0, 0)], [(0, 1), (0, 2)]), [1, None])
        self.assertEqual(self.times(floor, FREE, [(0, 0), (0, 2)], [(0, 1), (0, 1)]), [1, None])

    def test_no_spot(self):
        floor = ("0#1", "000")
        for spot in SIDES:
            self.assertRefused(NoSpot, crowd, floor, FREE, [spot], [(0, 0)])
            self.assertRefused(NoSpot, crowd, floor, FREE, [(0, 0)], [spot])
            self.assertRefused(NoSpot, crowd, floor, FREE, [spot], [spot])
            self.assertRefused(NoSpot, crowd, floor, FREE, [(0, 0), (1, 1), spot], [(1, 1), (1, 0), (0, 0)])
            self.assertRefused(NoSpot, crowd, floor, FREE, [(0, 0), (1, 1), (0, 2)], [(1, 1), (1, 0), spot])
            self.assertRefused(NoSpot, crowd, ("0#0", "##0"), FREE, [(0, 0), (0, 2)], [(1, 2), spot])

    def test_told_lists_are_new(self):
        starts, goals = [(0, 0), (0, 2), (1, 1)], [(0, 2), (0, 0), (1, 1)]
        self.assertToldAnew(lambda: crowd(("000", "000"), FREE, starts, goals))
        self.assertToldAnew(lambda: crowd(("000",), FREE, [], []))
        self.assertEqual((starts, goals), ([(0, 0), (0, 2), (1, 1)], [(0, 2), (0, 0), (1, 1)]))


class Plans(CrowdCase):
    floor = ("000", "0#0", "050")
    walker = (False, 4, 0)
    starts = [(0, 0), (0, 2)]
    goals = [(0, 2), (2, 0)]

    def assertPlan(self, thing, right):
        self.assertIs(is_plan(self.floor, self.walker, self.starts, self.goals, thing), right, thing)

    def right_plan(self):
        return [[(0, 0), (0, 0), (0, 1), (0, 2)], None]

    def test_a_right_one(self):
        self.assertPlan(self.right_plan(), True)
        self.assertPlan([None, None], True)
        self.assertPlan([None, [(0, 2), (0, 1), (0, 0), (1, 0), (2, 0)]], True)
        self.assertPlan([[(0, 0), (0, 1), (0, 2)], None], True)

    def test_no_walkers(self):
        self.assertIs(is_plan(self.floor, self.walker, [], [], []), True)
        for thing in [[None], [[]], [[(0, 0)]], (), None, 0, "", False]:
            self.assertIs(is_plan(self.floor, self.walker, [], [], thing), False)

    def test_a_wrong_number_of_entries(self):
        plan = self.right_plan()
        for thing in [plan[:1], [], plan + [None], plan + [[(2, 2)]], [None], [None] * 3, plan + plan]:
            self.assertPlan(thing, False)

    def test_another_start_or_goal(self):
        way = self.right_plan()[0]
        for wrong in [way[2:], way[:-1], way[:1], way[-1:], list(reversed(way)), way + [(0, 1)], [(1, 0)] + way]:
            self.assertPlan([wrong, None], False)
            self.assertPlan([None, wrong], False)
        self.assertPlan([None, way], False)
        self.assertPlan([way + way[2:3] + way[-1:], None], True)

    def test_no_step_from_one_time_to_the_next(self):
        self.assertPlan([[(0, 0), (0, 2)], None], False)
        self.assertPlan([[(0, 0), (0, 1), (0, 1), (0, 0), (0, 2)], None], False)
        self.assertPlan([None, [(0, 2), (1, 2), (2, 2), (2, 1), (2, 0)]], False)
        self.assertPlan([[(0, 0), (1, 1), (0, 2)], None], False)
        self.assertPlan([[(0, 0), (-1, 1), (0, 2)], None], False)
        self.assertIs(is_plan(("00", "00"), STRAIGHT, [(0, 0)], [(1, 1)], [[(0, 0), (1, 1)]]), False)
        self.assertIs(is_plan(("00", "00"), FREE, [(0, 0)], [(1, 1)], [[(0, 0), (1, 1)]]), True)
        self.assertIs(is_plan(("00", "#0"), FREE, [(0, 0)], [(1, 1)], [[(0, 0), (1, 1)]]), False)

    def test_two_at_one_spot(self):
        floor = ("00000",)
        meets = [[(0, 0), (0, 1), (0, 2)], [(0, 4), (0, 3), (0, 2), (0, 3)]]
        self.assertIs(is_plan(floor, FREE, [(0, 0), (0, 4)], [(0, 2), (0, 3)], meets), False)
        waits = [[(0, 0), (0, 0), (0, 1), (0, 2)], [(0, 4), (0, 3), (0, 2), (0, 3)]]
        self.assertIs(is_plan(floor, FREE, [(0, 0), (0, 4)], [(0, 2), (0, 3)], waits), True)
        begins = [[(0, 0), (0, 1)], [(0, 0), (0, 0)]]
        self.assertIs(is_plan(floor, FREE, [(0, 0), (0, 0)], [(0, 1), (0, 0)], begins), False)
        ends = [[(0, 0), (0, 1)], [(0, 2), (0, 2), (0, 2), (0, 1)]]
        self.assertIs(is_plan(floor, FREE, [(0, 0), (0, 2)], [(0, 1), (0, 1)], ends), False)

    def test_two_that_exchange_their_spots(self):
        floor = ("000", "000")
        swapped = [[(0, 0), (0, 1)], [(0, 1), (0, 0)]]
        self.assertIs(is_plan(floor, FREE, [(0, 0), (0, 1)], [(0, 1), (0, 0)], swapped), False)
        late = [[(0, 0), (0, 0), (0, 1)], [(0, 2), (0, 1), (0, 0)]]
        self.assertIs(is_plan(floor, FREE, [(0, 0), (0, 2)], [(0, 1), (0, 0)], late), False)
        slanting = [[(0, 0), (1, 1)], [(1, 1), (0, 0)]]
        self.assertIs(is_plan(floor, FREE, [(0, 0), (1, 1)], [(1, 1), (0, 0)], slanting), False)
        crossed = [[(0, 0), (1, 1)], [(0, 1), (1, 0)]]
        self.assertIs(is_plan(floor, FREE, [(0, 0), (0, 1)], [(1, 1), (1, 0)], crossed), True)
        followed = [[(0, 0), (0, 1)], [(0, 1), (0, 2)]]
        self.assertIs(is_plan(floor, FREE, [(0, 0), (0, 1)], [(0, 1), (0, 2)], followed), True)
        third = [[(1, 2)], [(0, 0), (0, 1)], [(0, 1), (0, 0)]]
        self.assertIs(is_plan(floor, FREE, [(1, 2), (0, 0), (0, 1)], [(1, 2), (0, 1), (0, 0)], third), False)

    def test_one_over_a_spot_at_which_another_stays(self):
        floor = ("0000",)
        starts, goals = [(0, 1), (0, 0)], [(0, 1), (0, 3)]
        over = [[(0, 1)], [(0, 0), (0, 1), (0, 2), (0, 3)]]
        self.assertIs(is_plan(floor, FREE, starts, goals, over), False)
        self.assertIs(is_plan(floor, FREE, starts[::-1], goals[::-1], over[::-1]), False)
        starts, goals = [(0, 0), (0, 3)], [(0, 1), (0, 2)]
        behind = [[(0, 0), (0, 1)], [(0, 3), (0, 3), (0, 3), (0, 3), (0, 2), (0, 1), (0, 2)]]
        self.assertIs(is_plan(floor, FREE, starts, goals, behind), False)
        self.assertIs(is_plan(floor, FREE, starts, goals, [behind[0], behind[1][:5]]), True)

    def test_how_long_they_take_does_not_matter(self):
        way = [(0, 0)] * 50 + [(0, 1), (0, 0)] * 20 + [(0, 1)] + [(0, 2)] * 70
        self.assertPlan([way, None], True)
        self.assertPlan([way, [(0, 2)] * 3 + [(0, 1), (0, 0), (1, 0), (2, 0)]], False)

    def test_tuples_lists_and_truths(self):
        plan = [[(0, 0), (0, 1), (1, 1)], [(1, 0)]]
        floor, starts, goals = ("00", "00"), [(0, 0), (1, 0)], [(1, 1), (1, 0)]
        self.assertIs(is_plan(floor, FREE, starts, goals, plan), True)
        wrong = [tuple(plan), [tuple(plan[0]), plan[1]], [plan[0], tuple(plan[1])], [plan[0], ()], [plan[0], []]]
        for place, spot in enumerate(plan[0]):
            for other in [
                list(spot), (bool(spot[0]), spot[1]), (spot[0], bool(spot[1])), spot + (0,), spot[:1], None, 0, "00",
                (spot,), str(spot), [spot],
            ]:
                wrong.append([plan[0][:place] + [other] + plan[0][place + 1:], plan[1]])
                wrong.append([plan[0][:place] + [spot, other] + plan[0][place + 1:], plan[1]])
        for thing in wrong:
            self.assertIs(is_plan(floor, FREE, starts, goals, thing), False, thing)

    def test_other_things(self):
        for thing in THINGS + [nested(12, False)]:
            self.assertPlan(thing, False)
            self.assertPlan([self.right_plan()[0], thing], thing is None)
            self.assertPlan([thing, None], thing is None)
            self.assertPlan([[(0, 0), (0, 1), thing, (0, 2)], None], False)
            self.assertPlan([[(0, 0), (0, 1), (0, 2), thing], None], False)

    def test_all_short_plans_against_the_second_reckoning(self):
        for floor, walker in product([("000",), ("00", "00"), ("05", "00")], [STRAIGHT, (True, 4, 0)]):
            spots = sorted(heights_of(floor))[:3]
            lists = [list(way) for length in (1, 2, 3) for way in product(spots, repeat=length)]
            for one, other in product(lists, lists):
                starts, goals = [one[0], other[0]], [one[-1], other[-1]]
                right = is_right_plan(floor, walker, starts, goals, [one, other])
                self.assertIs(is_plan(floor, walker, starts, goals, [one, other]), right, (floor, one, other))

    def test_a_told_crowd_that_is_spoilt(self):
        draw = drawer(5)
        seen = []
        for place, floor in enumerate(every_floor(2, 3, "#0")):
            walker = WALKERS[place % len(WALKERS)]
            spots = sorted(heights_of(floor))
            if len(spots) > 2:
                starts, goals = spots[:3], spots[-3:]
                told = crowd(floor, walker, starts, goals)
                for _ in range(6):
                    way = told[draw(3)]
                    if way is not None:
                        way.insert(draw(len(way) + 1), spots[draw(len(spots))])
                    right = is_right_plan(floor, walker, starts, goals, told)
                    seen.append(right)
                    self.assertIs(is_plan(floor, walker, starts, goals, told), right, (floor, starts, goals, told))
        self.assertGreater(seen.count(True), 20)
        self.assertGreater(seen.count(False), 20)

    def test_what_is_handed_in_stays(self):
        for plan in [self.right_plan(), [[], None], [[(0, 0)], [(0, 2), (0, 2)]], [[[0]], 7], []]:
            kept = deepcopy((plan, self.starts, self.goals))
            is_plan(self.floor, self.walker, self.starts, self.goals, plan)
            self.assertEqual((plan, self.starts, self.goals), kept)
