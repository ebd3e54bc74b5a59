from itertools import product

from cellways.errors import NoSpot
from cellways.rooms import narrow_spots, room_with, rooms
from cellways.ways import least_way
from tests.reckoning import (
    BIG, WALKERS, all_narrow, all_rooms, every_floor, heights_of, put_on, scattered_floors,
)
from tests.test_floors import Case

FREE = (True, 9, 3)
STRAIGHT = (False, 9, 0)


class Rooms(Case):
    def assertRooms(self, floor, walker):
        expected = all_rooms(floor, walker)
        self.assertEqual(rooms(floor, walker), expected, (floor, walker))
        for room in expected:
            for spot in room:
                self.assertEqual(room_with(floor, walker, spot), room, (floor, walker, spot))

    def test_a_few(self):
        self.assertEqual(rooms(("#",), FREE), [])
        self.assertEqual(rooms(("0",), FREE), [[(0, 0)]])
        self.assertEqual(rooms(("0#", "#0"), FREE), [[(0, 0)], [(1, 1)]])
        self.assertEqual(rooms(("05", "#0"), (True, 4, 0)), [[(0, 0)], [(0, 1)], [(1, 1)]])
        self.assertEqual(rooms(("05", "00"), (True, 4, 0)), [[(0, 0), (1, 0), (1, 1)], [(0, 1)]])
        self.assertEqual(rooms(("05", "50"), (True, 4, 0)), [[(0, 0), (1, 1)], [(0, 1), (1, 0)]])
        self.assertEqual(rooms(("05", "50"), (False, 4, 0)), [[(0, 0)], [(0, 1)], [(1, 0)], [(1, 1)]])

    def test_the_order_of_the_least_spots(self):
        floor = ("#0#00", "00#0#", "###0#", "0#000")
        self.assertEqual(rooms(floor, STRAIGHT), [
            [(0, 1), (1, 0), (1, 1)],
            [(0, 3), (0, 4), (1, 3), (2, 3), (3, 2), (3, 3), (3, 4)],
            [(3, 0)],
        ])

    def test_every_small_floor(self):
        for floor in every_floor(2, 2, "#026") + every_floor(1, 4, "#02"):
            for walker in WALKERS:
                self.assertRooms(floor, walker)

    def test_scattered_floors(self):
        for place, floor in enumerate(scattered_floors(120, 7, 7, "###000124")):
            self.assertRooms(floor, WALKERS[place % len(WALKERS)])

    def test_in_one_room_just_if_there_is_a_way(self):
        for place, floor in enumerate(scattered_floors(30, 4, 4, "##00125")):
            walker = WALKERS[place % len(WALKERS)]
            for one, other in product(heights_of(floor), repeat=2):
                together = other in room_with(floor, walker, one)
                self.assertIs(together, least_way(floor, walker, one, other) is not None)
                self.assertIs(together, any(one in room and other in room for room in rooms(floor, walker)))

    def test_great_floors(self):
        flat = ("4" * 12,) * 12
        self.assertEqual(rooms(flat, STRAIGHT), [sorted(heights_of(flat))])
        self.assertEqual(len(rooms(("#0" * 6, "0#" * 6) * 6, FREE)), 72)
        self.assertEqual(len(rooms(("0" * 13,) * 14, FREE)[0]), 13 * 14)

    def test_no_spot(self):
        floor = ("0#1", "000")
        for spot in [(0, 1), (-1, 0), (0, -1), (2, 0), (0, 3), (-2, -3), (BIG, 0), (0, -BIG)]:
            self.assertRefused(NoSpot, room_with, floor, FREE, spot)

    def test_told_lists_are_new(self):
        floor = ("00#0", "0##0")
        tells = [
            lambda: rooms(floor, FREE), lambda: room_with(floor, FREE, (0, 0)), lambda: narrow_spots(floor, FREE),
            lambda: rooms(("#",), FREE), lambda: narrow_spots(("#",), FREE),
        ]
        for tell in tells:
            self.assertToldAnew(tell)


class NarrowSpots(Case):
    def assertNarrow(self, floor, walker):
        self.assertEqual(narrow_spots(floor, walker), all_narrow(floor, walker), (floor, walker))

    def test_short_rows(self):
        self.assertEqual(narrow_spots(("#",), FREE), [])
        self.assertEqual(narrow_spots(("0",), FREE), [])
        self.assertEqual(narrow_spots(("00",), FREE), [])
        self.assertEqual(narrow_spots(("000",), FREE), [(0, 1)])
        self.assertEqual(narrow_spots(("0#0",), FREE), [])
        self.assertEqual(narrow_spots(("0000#000",), FREE), [(0, 1), (0, 2), (0, 6)])

    def test_rooms_are_not_mixed(self):
        self.assertEqual(narrow_spots(("000", "###", "000"), FREE), [(0, 1), (2, 1)])
        self.assertEqual(narrow_spots(("00", "##", "00"), FREE), [])

    def test_a_wall_parts_slanting_steps_past_it(self):
        floor, walker = ("000", "050"), (True, 4, 0)
        self.assertIsNotNone(least_way(floor, walker, (1, 0), (0, 1)))
        self.assertEqual(narrow_spots(floor, walker), [(0, 0), (0, 1), (0, 2)])
        self.assertEqual(narrow_spots(("00", "00"), FREE), [])
        self.assertEqual(narrow_spots(("000", "000"), FREE), [])

    def test_slanting_steps_of_one_room_past_another(self):
        floor, walker = ("09", "90"), (True, 0, 0)
        self.assertEqual(rooms(floor, walker), [[(0, 0), (1, 1)], [(0, 1), (1, 0)]])
        self.assertEqual(len(rooms(put_on(floor, (0, 1), "#"), walker)), 3)
        self.assertEqual(narrow_spots(floor, walker), [])

    def test_depends_on_the_walker(self):
        floor = ("000", "050")
        self.assertEqual(narrow_spots(floor, (True, 5, 0)), [])
        self.assertEqual(narrow_spots(floor, (False, 4, 0)), [(0, 0), (0, 1), (0, 2)])
        floor = ("0909", "9090", "0909")
        self.assertEqual(narrow_spots(floor, (False, 0, 0)), [])
        self.assertEqual(narrow_spots(floor, (True, 0, 0)), all_narrow(floor, (True, 0, 0)))
        self.assertIn((1, 2), narrow_spots(floor, (True, 0, 0)))

    def test_every_small_floor(self):
        for floor in every_floor(2, 3, "#02") + every_floor(1, 5, "#0"):
            for walker in [(False, 9, 0), (True, 9, 0), (False, 1, 0), (True, 1, 0)]:
                self.assertNarrow(floor, walker)

    def test_scattered_floors(self):
        for place, floor in enumerate(scattered_floors(140, 5, 5, "##0000124")):
            self.assertNarrow(floor, WALKERS[place % len(WALKERS)])

    def test_great_floors(self):
        flat = ("4" * 12,) * 12
        self.assertEqual(narrow_spots(flat, FREE), [])
        self.assertEqual(narrow_spots(flat, STRAIGHT), [])
        snake = ("0" * 12, "#" * 11 + "0", "0" * 12, "0" + "#" * 11) * 3
        inner = [spot for spot in sorted(heights_of(snake)) if spot not in [(0, 0), (11, 0)]]
        self.assertEqual(narrow_spots(snake, FREE), inner)
        self.assertEqual(narrow_spots(("0" * 14,), FREE), [(0, column) for column in range(1, 13)])
