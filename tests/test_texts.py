from copy import deepcopy
from itertools import product

from cellways.errors import NoText
from cellways.floors import is_floor
from cellways.texts import read_floor, read_runs, written_floor, written_runs
from cellways.turns import runs_of, way_by
from cellways.ways import least_way
from tests.reckoning import drawer, every_floor, heights_of, scattered_floors
from tests.test_floors import Case

FREE = (True, 9, 3)
DIRECTIONS = ["n", "s", "w", "e", "ne", "nw", "se", "sw"]
READ_SIGNS = "\n" + "".join(chr(code) for code in range(32, 127))


def changed_texts(text):
    """All texts with one sign left out, put in or in the stead of another one."""
    for place in range(len(text) + 1):
        yield text[:place] + text[place + 1:]
        for sign in READ_SIGNS:
            yield text[:place] + sign + text[place:]
            yield text[:place] + sign + text[place + 1:]


class FloorTexts(Case):
    def test_a_few(self):
        for floor, text in [
            (("0",), "0\n"), (("#",), "#\n"), (("01#", "9#9"), "01#\n9#9\n"), (("0", "1", "2"), "0\n1\n2\n"),
        ]:
            self.assertEqual(written_floor(floor), text)
            self.assertEqual(read_floor(text), floor)
            self.assertIs(type(read_floor(text)), tuple)

    def test_there_and_back(self):
        for floor in scattered_floors(80, 12, 12, "##0123456789") + every_floor(2, 2, "#07"):
            text = written_floor(floor)
            self.assertEqual(text.count("\n"), len(floor))
            self.assertEqual(text.split("\n"), list(floor) + [""])
            self.assertEqual(read_floor(text), floor)

    def test_each_count_of_rows_and_columns(self):
        for rows, columns in product(range(15), range(15)):
            text = ("5" * columns + "\n") * rows
            if 1 <= rows <= 12 and 1 <= columns <= 12:
                self.assertEqual(read_floor(text), ("5" * columns,) * rows)
            else:
                self.assertRefused(NoText, read_floor, text)

    def test_a_floor_beyond_the_bounds_is_written(self):
        self.assertEqual(written_floor(("0" * 14,) * 13), ("0" * 14 + "\n") * 13)

    def test_no_writing_of_a_floor(self):
        for text in [
            "", "\n", "\n\n", "0", "00\n00", "0\n\n", "\n0\n", "0\n\n0\n", "0\n00\n", "00\n0\n", "0 \n", " 0\n", "0\n ",
            "0\n 0\n", "a\n", "0a\n", "-1\n", "0,0\n", "('0',)", "('0',)\n", "0\\n", "0.\n", "0\n0\n0", ".\n", "0\n#",
        ]:
            self.assertRefused(NoText, read_floor, text)

    def test_each_change_of_a_sign(self):
        for floor in [("0",), ("0#", "12"), ("#", "7", "7")]:
            for text in changed_texts(written_floor(floor)):
                rows = tuple(text.split("\n")[:-1])
                if text.endswith("\n") and is_floor(rows):
                    self.assertEqual(read_floor(text), rows)
                    self.assertEqual(written_floor(read_floor(text)), text)
                else:
                    self.assertRefused(NoText, read_floor, text)


class RunTexts(Case):
    def assertThereAndBack(self, start, runs, text):
        self.assertEqual(written_runs(start, runs), text)
        told = read_runs(text)
        self.assertEqual(told, (start, runs))
        self.assertEqual([type(part) for part in told], [tuple, list])
        self.assertEqual([type(part) for part in told[0]], [int, int])
        self.assertTrue(all(type(run) is tuple and type(run[1]) is int for run in told[1]))

    def test_a_few(self):
        self.assertThereAndBack((3, 0), [("n", 2), ("se", 1)], "3,0 n2 se1")
        self.assertThereAndBack((0, 0), [], "0,0")
        self.assertThereAndBack((11, 10), [], "11,10")
        self.assertThereAndBack((0, 11), [("ne", 10), ("nw", 100), ("ne", 999)], "0,11 ne10 nw100 ne999")
        self.assertThereAndBack((12, 13), [("s", 7)], "12,13 s7")
        self.assertThereAndBack((999, 999), [("sw", 5)], "999,999 sw5")

    def test_a_spot_beside_the_floor(self):
        self.assertThereAndBack((-1, 0), [("s", 1)], "-1,0 s1")
        self.assertThereAndBack((0, -12), [], "0,-12")
        for text in ["-0,0", "0,-0", "--1,0", "-,0", "0,-", "-01,0", "- 1,0", "1-,0", "-1", "0,-1000"]:
            self.assertRefused(NoText, read_runs, text)

    def test_each_number_of_steps(self):
        for steps in range(1, 1000):
            self.assertThereAndBack((1, 2), [("w", steps)], f"1,2 w{steps}")
        for steps in [1000, 1001, 1999, 9999, 10 ** 30]:
            self.assertEqual(written_runs((1, 2), [("w", steps)]), f"1,2 w{steps}")
            self.assertRefused(NoText, read_runs, f"1,2 w{steps}")
            self.assertRefused(NoText, read_runs, f"1,2 e2 w{steps} e2")
        self.assertRefused(NoText, read_runs, "1,2 w" + "9" * 5000)
        self.assertRefused(NoText, read_runs, "9" * 5000 + ",2")

    def test_each_direction_and_pair_of_them(self):
        for one in DIRECTIONS:
            self.assertThereAndBack((4, 5), [(one, 6)], f"4,5 {one}6")
            for other in DIRECTIONS:
                text = f"4,5 {one}6 {other}7"
                if one == other:
                    self.assertRefused(NoText, read_runs, text)
                    self.assertRefused(NoText, read_runs, f"4,5 nw1 {one}6 {other}6 s1")
                else:
                    self.assertThereAndBack((4, 5), [(one, 6), (other, 7)], text)
                    self.assertThereAndBack((4, 5), [(one, 6), (other, 6), (one, 6)], f"4,5 {one}6 {other}6 {one}6")

    def test_drawn_runs(self):
        draw = drawer(17)
        for _ in range(200):
            runs = []
            for _ in range(draw(9)):
                direction = DIRECTIONS[draw(8)]
                if not runs or runs[-1][0] != direction:
                    runs.append((direction, 1 + draw(999)))
            start = (draw(14), draw(14))
            text = f"{start[0]},{start[1]}" + "".join(f" {direction}{steps}" for direction, steps in runs)
            self.assertThereAndBack(start, runs, text)

    def test_runs_of_ways(self):
        for floor in scattered_floors(30, 6, 7, "#000012"):
            spots = sorted(heights_of(floor))
            for start, goal in zip(spots, reversed(spots)):
                told = least_way(floor, FREE, start, goal)
                if told is not None:
                    runs = runs_of(floor, FREE, told[1])
                    read = read_runs(written_runs(start, runs))
                    self.assertEqual(way_by(floor, FREE, *read), told[1])

    def test_no_writing_of_a_spot_and_runs(self):
        for text in [
            "", " ", "\n", ",", "0", "0,", ",0", "0,0,0", "0,0,", ",0,0", "0;0", "0.0", "0 0", "0, 0", "0 ,0", " 0,0",
            "0,0 ", "0,0\n", "\n0,0", "0,0 n1 ", "0,0  n1", " 0,0 n1", "0,0\nn1", "0,0 n1\n", "0,0n1", "0,0,n1",
            "00,0", "0,00", "01,0", "0,01", "+1,0", "0,+1", "1_0,0", "0,1_0", "(0,0)", "0x1,0", "a,0", "0,b",
            "0,0 n0", "0,0 n00", "0,0 n01", "0,0 n001", "0,0 n", "0,0 1", "0,0 1n", "0,0 n-1", "0,0 n+1", "0,0 n 1",
            "0,0 n1_0", "0,0 n1n", "0,0 n1n2", "0,0 n1,n2", "0,0 N1", "0,0 en1", "0,0 ns1", "0,0 nn1", "0,0 x1",
            "0,0 nne1", "0,0 ne", "0,0 n1 e", "0,0 n1 e0", "0,0 n1 n1", "0,0 n1 e1 e1", "0,0 n1000", "0,0 n0999",
            "0,0 e1 n1 n2", "n1", "n1 0,0", "0,0 0,0", "0,0 n1 0,0", "0,0 n1.0", "0,0 n1e1", "1000,0", "0,1000",
        ]:
            self.assertRefused(NoText, read_runs, text)

    def test_each_change_of_a_sign_is_read_as_what_it_writes_or_not_at_all(self):
        for text in ["0,0", "10,2 n2 se1", "3,11 w10 e999 w1"]:
            read = 0
            for changed in changed_texts(text):
                try:
                    start, runs = read_runs(changed)
                except NoText:
                    continue
                read += 1
                self.assertEqual(written_runs(start, runs), changed)
                self.assertTrue(all(direction in DIRECTIONS and 1 <= steps <= 999 for direction, steps in runs))
                self.assertTrue(all(one[0] != other[0] for one, other in zip(runs, runs[1:])))
            self.assertGreater(read, 10)

    def test_told_lists_are_new(self):
        self.assertToldAnew(lambda: read_runs("3,0 n2 se1"))
        self.assertToldAnew(lambda: read_runs("3,0"))

    def test_what_is_handed_in_stays(self):
        runs = [("n", 2), ("se", 1)]
        kept = deepcopy(runs)
        written_runs((3, 0), runs)
        self.assertEqual(runs, kept)
