from copy import deepcopy

from cellways.errors import NoSign, NoSpot
from cellways.floors import cost_of, is_way, open_spots
from cellways.kept import Keeper
from tests.reckoning import BIG, WALKERS, all_costs, drawer, heights_of, put_on, scattered_floors
from tests.test_floors import Case

FREE = (True, 9, 3)
STRAIGHT = (False, 9, 0)
SIGNS = "#0123456789"
SIDES = [(-1, 0), (0, -1), (2, 0), (0, 3), (-2, -3), (BIG, 0), (0, BIG), (-BIG, 0), (0, -BIG)]
NO_SIGNS = ["", " ", "a", "##", "00", "01", "#0", "-1", "10", "\n", "0\n", "\u0663", "\u00b2", ".", SIGNS]


class KeeperCase(Case):
    def assertKept(self, keeper, floor, walker, goal):
        """That what is kept is what is found anew on this floor."""
        self.assertEqual(keeper.now(), floor)
        costs = all_costs(floor, walker)
        for spot in heights_of(floor):
            cost = costs.get((spot, goal))
            self.assertEqual(keeper.distance(spot), cost, (floor, walker, goal, spot))
            way = keeper.way_from(spot)
            if cost is None:
                self.assertIsNone(way)
            else:
                self.assertIs(is_way(floor, walker, way), True)
                self.assertEqual((way[0], way[-1]), (spot, goal))
                self.assertEqual(cost_of(floor, walker, way), cost)
        cut = sorted(spot for spot in heights_of(floor) if (spot, goal) not in costs)
        self.assertEqual(keeper.cut_off(), cut)
        for row in range(-1, len(floor) + 1):
            for column in range(-1, len(floor[0]) + 1):
                if (row, column) not in heights_of(floor):
                    self.assertRefused(NoSpot, keeper.distance, (row, column))
                    self.assertRefused(NoSpot, keeper.way_from, (row, column))


class Kept(KeeperCase):
    def test_at_first(self):
        for place, floor in enumerate(scattered_floors(40, 3, 4, "#00125")):
            walker = WALKERS[place % len(WALKERS)]
            for goal in heights_of(floor):
                self.assertKept(Keeper(floor, walker, goal), floor, walker, goal)

    def test_a_wall_put_and_taken_away(self):
        keeper = Keeper(("000", "000"), STRAIGHT, (0, 0))
        self.assertEqual(keeper.distance((0, 2)), 4)
        self.assertIsNone(keeper.put((0, 1), "#"))
        self.assertEqual(keeper.now(), ("0#0", "000"))
        self.assertEqual(keeper.distance((0, 2)), 8)
        self.assertEqual(keeper.way_from((0, 2)), [(0, 2), (1, 2), (1, 1), (1, 0), (0, 0)])
        self.assertIsNone(keeper.put((1, 1), "#"))
        self.assertIsNone(keeper.distance((0, 2)))
        self.assertIsNone(keeper.way_from((0, 2)))
        self.assertEqual(keeper.cut_off(), [(0, 2), (1, 2)])
        self.assertIsNone(keeper.put((0, 1), "7"))
        self.assertEqual(keeper.now(), ("070", "0#0"))
        self.assertEqual(keeper.distance((0, 2)), 4)
        self.assertEqual(keeper.cut_off(), [])

    def test_each_sign_at_each_spot(self):
        floor, walker, goal = ("0#2", "130"), (True, 2, 1), (1, 2)
        for row in range(2):
            for column in range(3):
                for sign in SIGNS:
                    if (row, column) != goal or sign != "#":
                        keeper = Keeper(floor, walker, goal)
                        keeper.distance(goal)
                        self.assertIsNone(keeper.put((row, column), sign))
                        self.assertKept(keeper, put_on(floor, (row, column), sign), walker, goal)

    def test_the_goal_gets_another_height(self):
        keeper = Keeper(("03",), (False, 3, 2), (0, 1))
        self.assertEqual(keeper.distance((0, 0)), 8)
        keeper.put((0, 1), "1")
        self.assertEqual((keeper.distance((0, 0)), keeper.distance((0, 1))), (4, 0))
        keeper.put((0, 1), "9")
        self.assertEqual((keeper.distance((0, 0)), keeper.cut_off()), (None, [(0, 0)]))

    def test_the_same_sign_again(self):
        floor = ("0#2", "130")
        keeper = Keeper(floor, FREE, (1, 2))
        for row in range(2):
            for column in range(3):
                self.assertIsNone(keeper.put((row, column), floor[row][column]))
                self.assertKept(keeper, floor, FREE, (1, 2))

    def test_many_signs_put(self):
        draw = drawer(99)
        for place, floor in enumerate(scattered_floors(30, 3, 4, "#00014")):
            walker = WALKERS[place % len(WALKERS)]
            if open_spots(floor):
                goal = open_spots(floor)[draw(len(open_spots(floor)))]
                keeper = Keeper(floor, walker, goal)
                for turn in range(12):
                    spot = (draw(len(floor)), draw(len(floor[0])))
                    sign = "###00125"[draw(8)]
                    if spot == goal and sign == "#":
                        self.assertRefused(NoSign, keeper.put, spot, sign)
                    else:
                        self.assertIsNone(keeper.put(spot, sign))
                        floor = put_on(floor, spot, sign)
                    if turn % 3 != 1:
                        self.assertKept(keeper, floor, walker, goal)

    def test_a_great_floor(self):
        keeper = Keeper(("0" * 12,) * 12, STRAIGHT, (0, 0))
        self.assertEqual(keeper.distance((11, 11)), 44)
        for row in range(12):
            keeper.put((row, 6), "#")
        self.assertEqual(keeper.cut_off(), [(row, column) for row in range(12) for column in range(7, 12)])
        keeper.put((0, 6), "0")
        self.assertEqual(keeper.distance((11, 11)), 44)
        beyond = Keeper(("0" * 14,) * 13, (True, 10, 4), (0, 0))
        beyond.put((12, 12), "9")
        self.assertEqual(beyond.distance((12, 13)), 38)
        self.assertEqual(beyond.now()[12], "0" * 12 + "90")


class Refused(KeeperCase):
    def test_the_goal_of_a_keeper(self):
        for goal in SIDES + [(0, 1)]:
            self.assertRefused(NoSpot, Keeper, ("0#1", "000"), FREE, goal)

    def test_spots_that_are_not_open(self):
        keeper = Keeper(("0#1", "000"), FREE, (0, 0))
        for spot in SIDES + [(0, 1)]:
            self.assertRefused(NoSpot, keeper.distance, spot)
            self.assertRefused(NoSpot, keeper.way_from, spot)
        keeper.put((1, 1), "#")
        keeper.put((0, 1), "0")
        self.assertRefused(NoSpot, keeper.distance, (1, 1))
        self.assertRefused(NoSpot, keeper.way_from, (1, 1))
        self.assertEqual(keeper.distance((0, 1)), 2)

    def test_what_is_refused_changes_nothing(self):
        floor, goal = ("0#1", "000"), (1, 0)
        keeper = Keeper(floor, FREE, goal)
        for spot in SIDES:
            for sign in ["#", "5"] + NO_SIGNS:
                self.assertRefused(NoSpot, keeper.put, spot, sign)
        self.assertKept(keeper, floor, FREE, goal)
        for sign in NO_SIGNS:
            for spot in [(0, 0), (0, 1), (1, 2), goal]:
                self.assertRefused(NoSign, keeper.put, spot, sign)
        self.assertKept(keeper, floor, FREE, goal)
        self.assertRefused(NoSign, keeper.put, goal, "#")
        self.assertKept(keeper, floor, FREE, goal)
        self.assertIsNone(keeper.put((0, 1), "2"))
        self.assertRefused(NoSign, keeper.put, goal, "#")
        self.assertKept(keeper, ("021", "000"), FREE, goal)


class Apart(KeeperCase):
    def test_two_keepers_do_not_change_each_other(self):
        floor = ("000", "000")
        one, other = Keeper(floor, FREE, (0, 0)), Keeper(floor, FREE, (0, 0))
        self.assertKept(one, floor, FREE, (0, 0))
        self.assertKept(other, floor, FREE, (0, 0))
        one.put((0, 1), "#")
        self.assertKept(other, floor, FREE, (0, 0))
        other.put((1, 1), "4")
        self.assertKept(one, ("0#0", "000"), FREE, (0, 0))
        self.assertKept(other, ("000", "040"), FREE, (0, 0))
        self.assertKept(Keeper(floor, FREE, (0, 0)), floor, FREE, (0, 0))

    def test_two_walkers_and_two_goals(self):
        floor = ("002", "#10")
        one, other = Keeper(floor, STRAIGHT, (0, 0)), Keeper(floor, (True, 1, 1), (1, 2))
        one.put((0, 1), "#")
        self.assertKept(other, floor, (True, 1, 1), (1, 2))
        self.assertKept(one, ("0#2", "#10"), STRAIGHT, (0, 0))

    def test_told_lists_are_new(self):
        keeper = Keeper(("00#0", "0##0"), FREE, (0, 0))
        tells = [
            lambda: keeper.way_from((1, 0)), lambda: keeper.way_from((0, 0)), lambda: keeper.cut_off(),
        ]
        for tell in tells:
            self.assertToldAnew(tell)
        self.assertKept(keeper, ("00#0", "0##0"), FREE, (0, 0))

    def test_what_is_handed_in_stays(self):
        floor, walker, goal = ("000", "000"), (True, 9, 3), (0, 0)
        kept = deepcopy((floor, walker, goal))
        keeper = Keeper(floor, walker, goal)
        keeper.put((1, 1), "#")
        self.assertEqual((floor, walker, goal), kept)
        before = keeper.now()
        keeper.put((1, 2), "#")
        self.assertEqual(before, ("000", "0#0"))
