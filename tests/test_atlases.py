from copy import deepcopy

from cellways.atlases import Atlas, atlas_text, read_atlas
from cellways.errors import FloorError, NoBack, NoFit, NoFloor, NoName, NoSign, NoSpot, NoText
from cellways.grounds import mirrored_floor, set_below, set_beside, turned_floor
from tests.reckoning import BIG, THINGS, drawer, nested, put_on, scattered_floors
from tests.test_floors import Case
from tests.test_texts import changed_texts

SIGNS = "#0123456789"
NO_NAMES = [thing for thing in THINGS if thing != "way"] + [
    "", " ", "a ", " a", "A", "aB", "a1", "a_b", "a-b", "a\n", "\n", "abcdefg", "a" * 100, "\u00e4", "\u00df", "\u0430",
    "\uff41", "a\u0301", "\u00aa", ("a",), ["a"], [["a"]], ("a", "b"), "a,b", "0a", "`", "{", "@", "[",
]
NO_SIGNS = [thing for thing in THINGS if thing not in ["0", "#"]] + [
    "a", ".", " ", "\n", "00", "##", "0#", "#0", SIGNS, "10", "-1", "\u0663", "\u00b2", "\uff11", ["0"], ("0",), ["#"],
]
NO_FLOORS = THINGS + [
    ["0"], ("0", "00"), ("",), ("0", ""), ("a",), ("0 ",), ("0" * 13,), ("0",) * 13, (0,), (("0",),), "0\n", ("0", 0),
]
SIDES = [(-1, 0), (0, -1), (2, 0), (0, 3), (-2, -3), (BIG, 0), (0, BIG), (-BIG, 0), (0, -BIG), (5, 5)]


class AtlasCase(Case):
    def assertHas(self, atlas, floors, marks):
        """That the atlas has just these floors by their names, and can go so far back and forth."""
        self.assertEqual(atlas.names(), sorted(floors))
        self.assertEqual({name: atlas.floor_of(name) for name in atlas.names()}, floors)
        self.assertEqual(atlas.marks(), marks)
        self.assertIs(type(atlas.marks()), tuple)

    def laid(self):
        atlas = Atlas()
        atlas.lay("a", ("01#", "234"))
        atlas.lay("hall", ("00", "00"))
        atlas.lay("zzzzzz", ("5",))
        return atlas

    floors = {"a": ("01#", "234"), "hall": ("00", "00"), "zzzzzz": ("5",)}


class Told(AtlasCase):
    def test_at_first(self):
        self.assertHas(Atlas(), {}, (0, 0))

    def test_lay(self):
        atlas = Atlas()
        self.assertIs(atlas.lay("b", ("0",)), False)
        self.assertHas(atlas, {"b": ("0",)}, (1, 0))
        self.assertIs(atlas.lay("a", ("1",)), False)
        self.assertHas(atlas, {"a": ("1",), "b": ("0",)}, (2, 0))
        self.assertIs(atlas.lay("b", ("2#", "##")), True)
        self.assertHas(atlas, {"a": ("1",), "b": ("2#", "##")}, (3, 0))
        self.assertIs(atlas.lay("b", ("2#", "##")), True)
        self.assertHas(atlas, {"a": ("1",), "b": ("2#", "##")}, (4, 0))

    def test_names(self):
        atlas = Atlas()
        right = ["a", "z", "az", "za", "abcdef", "zzzzzz", "aa", "aaa", "way", "mzmzm"]
        for name in right:
            self.assertIs(atlas.lay(name, ("0",)), False)
        for letter in "abcdefghijklmnopqrstuvwxyz":
            atlas.lay(letter, ("0",))
        self.assertEqual(atlas.names(), sorted(right + [letter for letter in "bcdefghijklmnopqrstuvwxy"]))

    def test_floor_of(self):
        atlas = self.laid()
        self.assertEqual(atlas.floor_of("hall"), ("00", "00"))
        self.assertHas(atlas, self.floors, (3, 0))

    def test_take(self):
        atlas = self.laid()
        self.assertEqual(atlas.take("hall"), ("00", "00"))
        self.assertHas(atlas, {"a": ("01#", "234"), "zzzzzz": ("5",)}, (4, 0))
        self.assertRefused(NoName, atlas.floor_of, "hall")
        self.assertRefused(NoName, atlas.take, "hall")
        self.assertHas(atlas, {"a": ("01#", "234"), "zzzzzz": ("5",)}, (4, 0))
        self.assertIs(atlas.lay("hall", ("7",)), False)

    def test_join(self):
        atlas = self.laid()
        self.assertEqual(atlas.join("b", True, "a", "hall"), ("01#00", "23400"))
        self.assertHas(atlas, {**self.floors, "b": ("01#00", "23400")}, (4, 0))
        self.assertEqual(atlas.join("b", True, "hall", "a"), ("0001#", "00234"))
        self.assertEqual(atlas.join("hall", False, "hall", "hall"), ("00",) * 4)
        self.assertHas(atlas, {**self.floors, "b": ("0001#", "00234"), "hall": ("00",) * 4}, (6, 0))
        self.assertEqual(atlas.join("a", False, "b", "b"), ("0001#", "00234") * 2)
        self.assertEqual(atlas.join("zzzzzz", True, "zzzzzz", "zzzzzz"), ("55",))
        self.assertEqual(atlas.join("c", False, "zzzzzz", "hall"), ("55", "00", "00", "00", "00"))

    def test_turn_and_mirror(self):
        atlas = self.laid()
        self.assertEqual(atlas.turn("a"), ("20", "31", "4#"))
        self.assertHas(atlas, {**self.floors, "a": ("20", "31", "4#")}, (4, 0))
        self.assertEqual(atlas.mirror("a"), ("02", "13", "#4"))
        self.assertHas(atlas, {**self.floors, "a": ("02", "13", "#4")}, (5, 0))
        self.assertEqual(atlas.turn("hall"), ("00", "00"))
        self.assertEqual(atlas.mirror("zzzzzz"), ("5",))
        self.assertHas(atlas, {**self.floors, "a": ("02", "13", "#4")}, (7, 0))

    def test_sign(self):
        atlas = self.laid()
        self.assertEqual(atlas.sign("a", (0, 2), "7"), "#")
        self.assertHas(atlas, {**self.floors, "a": ("017", "234")}, (4, 0))
        self.assertEqual(atlas.sign("a", (1, 0), "#"), "2")
        self.assertEqual(atlas.sign("a", (1, 0), "#"), "#")
        self.assertHas(atlas, {**self.floors, "a": ("017", "#34")}, (6, 0))
        self.assertEqual(atlas.sign("a", (1, 2), "4"), "4")
        self.assertHas(atlas, {**self.floors, "a": ("017", "#34")}, (7, 0))

    def test_each_sign_at_each_spot(self):
        floor = ("0#2", "139")
        for row in range(2):
            for column in range(3):
                for sign in SIGNS:
                    atlas = Atlas()
                    atlas.lay("x", floor)
                    self.assertEqual(atlas.sign("x", (row, column), sign), floor[row][column])
                    self.assertHas(atlas, {"x": put_on(floor, (row, column), sign)}, (2, 0))


class Refused(AtlasCase):
    def assertAllRefused(self, refusal, calls):
        """That each of these calls is refused, changes nothing, and is no step: what was taken back stays there."""
        atlas = self.laid()
        atlas.take("a")
        atlas.back()
        for method, *arguments in calls:
            kept = deepcopy(arguments)
            self.assertRefused(refusal, getattr(atlas, method), *arguments)
            self.assertEqual(arguments, kept)
        self.assertHas(atlas, self.floors, (3, 1))
        self.assertEqual(atlas.forth(), "take")

    def test_no_floor_comes_first(self):
        self.assertAllRefused(NoFloor, [("lay", "a", thing) for thing in NO_FLOORS])
        self.assertAllRefused(NoFloor, [("lay", name, thing) for name in NO_NAMES for thing in NO_FLOORS[::7]])

    def test_no_name(self):
        for name in NO_NAMES:
            self.assertAllRefused(NoName, [
                ("lay", name, ("0",)), ("floor_of", name), ("take", name), ("turn", name), ("mirror", name),
                ("sign", name, (0, 0), "0"), ("join", name, True, "a", "hall"), ("join", "b", True, name, "hall"),
                ("join", "b", True, "a", name), ("join", name, False, name, name),
            ])

    def test_a_name_that_no_floor_has(self):
        self.assertAllRefused(NoName, [
            ("floor_of", "b"), ("take", "b"), ("turn", "b"), ("mirror", "b"), ("sign", "b", (0, 0), "0"),
            ("join", "a", True, "b", "hall"), ("join", "a", True, "hall", "b"), ("join", "b", False, "b", "b"),
        ])
        self.assertAllRefused(NoName, [("floor_of", "hal"), ("floor_of", "halls"), ("take", "zzzzz")])

    def test_join_no_name_and_then_no_fit(self):
        self.assertAllRefused(NoFit, [
            ("join", "b", False, "a", "hall"), ("join", "b", True, "a", "zzzzzz"), ("join", "a", False, "a", "zzzzzz"),
            ("join", "a", True, "zzzzzz", "a"),
        ])
        self.assertAllRefused(NoName, [
            ("join", "B", False, "a", "hall"), ("join", "b", True, "a", "none"), ("join", "a", False, "none", "zzzzzz"),
        ])

    def test_join_beyond_twelve(self):
        atlas = Atlas()
        atlas.lay("a", ("0" * 7,) * 6)
        self.assertRefused(NoFit, atlas.join, "b", True, "a", "a")
        self.assertEqual(atlas.join("b", False, "a", "a"), ("0" * 7,) * 12)
        self.assertRefused(NoFit, atlas.join, "b", False, "b", "a")
        self.assertHas(atlas, {"a": ("0" * 7,) * 6, "b": ("0" * 7,) * 12}, (2, 0))

    def test_sign_no_name_no_spot_no_sign(self):
        self.assertAllRefused(NoSign, [("sign", "a", (1, 1), sign) for sign in NO_SIGNS])
        self.assertAllRefused(NoSpot, [("sign", "a", spot, sign) for spot in SIDES for sign in NO_SIGNS + ["0", "#"]])
        self.assertAllRefused(NoSpot, [("sign", "zzzzzz", (0, 1), "0"), ("sign", "hall", (2, 0), "0")])
        for spot in SIDES + [(0, 0)]:
            self.assertAllRefused(NoName, [("sign", "b", spot, sign) for sign in NO_SIGNS + ["0", "#"]])

    def test_on_an_atlas_without_floors(self):
        atlas = Atlas()
        for call in [atlas.floor_of, atlas.take, atlas.turn, atlas.mirror]:
            for name in ["a", "", None, []]:
                self.assertRefused(NoName, call, name)
        self.assertRefused(NoName, atlas.join, "a", True, "a", "a")
        self.assertRefused(NoName, atlas.sign, "a", (0, 0), "0")
        self.assertRefused(NoBack, atlas.back)
        self.assertRefused(NoBack, atlas.forth)
        self.assertHas(atlas, {}, (0, 0))


class BackAndForth(AtlasCase):
    def steps(self):
        """Each kind of step, also those that change nothing, with its word."""
        return [
            ("lay", "a", ("01#", "234")), ("lay", "a", ("01#", "234")), ("lay", "b", ("7",)), ("turn", "a"),
            ("turn", "b"), ("mirror", "a"), ("mirror", "b"), ("sign", "a", (0, 0), "9"), ("sign", "a", (0, 0), "9"),
            ("join", "c", True, "b", "b"), ("join", "c", True, "b", "b"), ("join", "b", False, "b", "b"),
            ("take", "a"), ("lay", "a", ("0",)), ("take", "a"), ("take", "b"), ("take", "c"),
        ]

    def test_through_all_steps(self):
        atlas = Atlas()
        seen = [{}]
        for method, *arguments in self.steps():
            getattr(atlas, method)(*arguments)
            seen.append({name: atlas.floor_of(name) for name in atlas.names()})
        last = len(seen) - 1
        for _ in range(2):
            self.assertRefused(NoBack, atlas.forth)
            for place in range(last, 0, -1):
                self.assertHas(atlas, seen[place], (place, last - place))
                self.assertEqual(atlas.back(), self.steps()[place - 1][0])
            self.assertHas(atlas, {}, (0, last))
            self.assertRefused(NoBack, atlas.back)
            self.assertHas(atlas, {}, (0, last))
            for place in range(1, last + 1):
                self.assertEqual(atlas.forth(), self.steps()[place - 1][0])
                self.assertHas(atlas, seen[place], (place, last - place))

    def test_another_step_ends_what_can_be_done_again(self):
        for method, *arguments in self.steps():
            atlas = Atlas()
            for name in ["a", "b", "c"]:
                atlas.lay(name, ("56",))
            atlas.turn("a")
            atlas.back()
            atlas.back()
            atlas.forth()
            self.assertEqual(atlas.marks(), (3, 1))
            getattr(atlas, method)(*arguments)
            self.assertEqual(atlas.marks(), (4, 0))
            self.assertRefused(NoBack, atlas.forth)
            self.assertEqual(atlas.back(), method)
            self.assertHas(atlas, {"a": ("56",), "b": ("56",), "c": ("56",)}, (3, 1))

    def test_what_only_tells_is_no_step(self):
        atlas = self.laid()
        atlas.back()
        atlas.names()
        atlas.marks()
        atlas.floor_of("a")
        atlas.twin()
        atlas_text(atlas)
        self.assertEqual(atlas.marks(), (2, 1))
        self.assertEqual(atlas.forth(), "lay")
        self.assertHas(atlas, self.floors, (3, 0))

    def test_told_words(self):
        atlas = Atlas()
        atlas.lay("a", ("0",))
        for _ in range(3):
            self.assertEqual((atlas.back(), atlas.marks()), ("lay", (0, 1)))
            self.assertEqual((atlas.forth(), atlas.marks()), ("lay", (1, 0)))

    def test_against_a_list_of_all_states(self):
        draw = drawer(71)
        floors = [floor for floor in scattered_floors(30, 3, 3, "##0159")]
        for _ in range(100):
            pairs = [(Atlas(), [("", {})], 0)]
            for _ in range(80):
                chosen = draw(len(pairs))
                atlas, states, place = pairs[chosen]
                if draw(25) == 0 and len(pairs) < 4:
                    pairs.append((atlas.twin(), list(states), place))
                states, place = self.after_one_call(atlas, states, place, draw, floors)
                pairs[chosen] = (atlas, states, place)
                for other, its_states, its_place in pairs:
                    self.assertHas(other, its_states[its_place][1], (its_place, len(its_states) - 1 - its_place))

    def after_one_call(self, atlas, states, place, draw, floors):
        word = ["lay", "lay", "take", "join", "turn", "mirror", "sign", "back", "forth", "back"][draw(10)]
        names = ["abc"[draw(3)] for _ in range(3)]
        if word in ["back", "forth"]:
            onward = place - 1 if word == "back" else place + 1
            if not 0 <= onward < len(states):
                self.assertRefused(NoBack, getattr(atlas, word))
                return states, place
            self.assertEqual(getattr(atlas, word)(), states[max(place, onward)][0])
            return states, onward
        arguments, told, after = self.reckoned(word, names, states[place][1], draw, floors)
        try:
            self.assertEqual(getattr(atlas, word)(*arguments), told)
        except FloorError as taken:
            self.assertIs(type(taken), told)
            return states, place
        return states[:place + 1] + [(word, after)], place + 1

    def reckoned(self, word, names, floors, draw, others):
        """The arguments of a call, what it tells or the class of its refusal, and the floors behind it."""
        name, one, other = names
        if word == "lay":
            floor = others[draw(len(others))]
            return [name, floor], name in floors, {**floors, name: floor}
        if word == "join":
            is_east = draw(2) == 1
            try:
                told = (set_beside if is_east else set_below)(floors[one], floors[other])
            except (KeyError, NoFit) as taken:
                return [name, is_east, one, other], NoFit if type(taken) is NoFit else NoName, None
            return [name, is_east, one, other], told, {**floors, name: told}
        spot, sign = (draw(3), draw(3)), SIGNS[draw(11)]
        arguments = [name, spot, sign] if word == "sign" else [name]
        if name not in floors:
            return arguments, NoName, None
        if word == "take":
            return arguments, floors[name], {key: floor for key, floor in floors.items() if key != name}
        if word == "sign":
            if spot[0] >= len(floors[name]) or spot[1] >= len(floors[name][0]):
                return arguments, NoSpot, None
            return arguments, floors[name][spot[0]][spot[1]], {**floors, name: put_on(floors[name], spot, sign)}
        told = (turned_floor if word == "turn" else mirrored_floor)(floors[name])
        return arguments, told, {**floors, name: told}


class Twins(AtlasCase):
    def test_a_twin_is_as_the_one(self):
        atlas = self.laid()
        atlas.turn("a")
        atlas.take("hall")
        atlas.back()
        twin = atlas.twin()
        self.assertIsInstance(twin, Atlas)
        self.assertIsNot(twin, atlas)
        after = {**self.floors, "a": turned_floor(self.floors["a"])}
        self.assertHas(twin, after, (4, 1))
        self.assertEqual(twin.forth(), "take")
        self.assertHas(atlas, after, (4, 1))
        self.assertEqual([twin.back() for _ in range(5)], ["take", "turn", "lay", "lay", "lay"])
        self.assertHas(twin, {}, (0, 5))
        self.assertHas(atlas, after, (4, 1))

    def test_each_goes_by_itself(self):
        atlas = self.laid()
        twin = atlas.twin()
        atlas.take("a")
        self.assertHas(twin, self.floors, (3, 0))
        twin.sign("a", (0, 0), "9")
        twin.back()
        atlas.back()
        self.assertHas(atlas, self.floors, (3, 1))
        self.assertHas(twin, self.floors, (3, 1))
        self.assertEqual((atlas.forth(), twin.forth()), ("take", "sign"))
        atlas.back()
        other = atlas.twin()
        atlas.lay("b", ("0",))
        self.assertHas(other, self.floors, (3, 1))
        self.assertEqual(other.forth(), "take")
        atlas.back()
        other.back()
        other.mirror("a")
        self.assertHas(atlas, self.floors, (3, 1))
        self.assertEqual(atlas.forth(), "lay")

    def test_a_twin_of_one_without_floors(self):
        twin = Atlas().twin()
        self.assertHas(twin, {}, (0, 0))
        self.assertRefused(NoBack, twin.back)

    def test_two_atlases_have_nothing_in_common(self):
        one, other = Atlas(), Atlas()
        one.lay("a", ("0",))
        self.assertHas(other, {}, (0, 0))


class AtlasTexts(AtlasCase):
    def test_a_few(self):
        self.assertEqual(atlas_text(Atlas()), "")
        self.assertEqual(atlas_text(self.laid()), "a\n01#\n234\n\nhall\n00\n00\n\nzzzzzz\n5\n\n")
        atlas = Atlas()
        atlas.lay("b", ("0",))
        atlas.lay("a", ("#",))
        self.assertEqual(atlas_text(atlas), "a\n#\n\nb\n0\n\n")
        atlas.take("a")
        self.assertEqual(atlas_text(atlas), "b\n0\n\n")

    def test_there_and_back(self):
        for atlas in [Atlas(), self.laid()]:
            text = atlas_text(atlas)
            read = read_atlas(text)
            self.assertIsInstance(read, Atlas)
            self.assertHas(read, {name: atlas.floor_of(name) for name in atlas.names()}, (0, 0))
            self.assertEqual(atlas_text(read), text)

    def test_scattered_atlases(self):
        draw = drawer(3)
        for place in range(20):
            atlas, floors = Atlas(), {}
            for floor in scattered_floors(place, 12, 12, SIGNS):
                name = "".join("abyz"[draw(4)] for _ in range(1 + draw(6)))
                atlas.lay(name, floor)
                floors[name] = floor
            self.assertHas(read_atlas(atlas_text(atlas)), floors, (0, 0))

    def test_the_one_read_has_no_steps(self):
        read = read_atlas(atlas_text(self.laid()))
        self.assertRefused(NoBack, read.back)
        self.assertRefused(NoBack, read.forth)
        self.assertIs(read.lay("a", ("0",)), True)
        self.assertEqual((read.back(), read.marks()), ("lay", (0, 1)))
        self.assertHas(read, self.floors, (0, 1))
        self.assertEqual(read.take("hall"), ("00", "00"))
        self.assertHas(read, {"a": ("01#", "234"), "zzzzzz": ("5",)}, (1, 0))

    def test_a_new_one_each_time(self):
        one, other = read_atlas("a\n0\n\n"), read_atlas("a\n0\n\n")
        one.take("a")
        self.assertHas(other, {"a": ("0",)}, (0, 0))
        self.assertHas(read_atlas("a\n0\n\n"), {"a": ("0",)}, (0, 0))

    def test_no_writing_of_an_atlas(self):
        for text in [
            "\n", "\n\n", "\n\n\n", "a", "a\n", "a\n\n", "a\n0", "a\n0\n", "0\n\n", "a\n0\n\n\n", "\na\n0\n\n", "0\n",
            " ",
            "a\n0\n\n ", "a\n0\n\na\n0\n\n", "b\n0\n\na\n0\n\n", "a\n0\n\n\nb\n0\n\n", "a\n0\nb\n0\n\n", "a\n\n0\n\n",
            "A\n0\n\n", "abcdefg\n0\n\n", "a1\n0\n\n", "a \n0\n\n", "a\n0 \n\n", "a\n0\n \n", "a\n00\n0\n\n",
            "a b\n0\n\n",
            "a\n0\n\nb", "a\n0\n\nb\n", "a\n0\n\nb\n0\n", "a\n0\n\nb\n\n", "a:0\n\n", "aa\n0\n\na\n0\n\n", "a\nx\n\n",
            "a\n" + "0" * 13 + "\n\n", "a\n" + "0\n" * 13 + "\n", "a\r\n0\r\n\r\n", "\u00e4\n0\n\n", "a\n\u0663\n\n",
        ]:
            self.assertRefused(NoText, read_atlas, text)
        self.assertHas(read_atlas("a\n" + "0\n" * 12 + "\n"), {"a": ("0",) * 12}, (0, 0))

    def test_each_change_of_a_sign_is_read_as_what_it_writes_or_not_at_all(self):
        for text in ["a\n0\n\n", "b\n01\n2#\n\nbc\n7\n\n"]:
            read = 0
            for changed in changed_texts(text):
                try:
                    atlas = read_atlas(changed)
                except NoText:
                    continue
                read += 1
                self.assertEqual(atlas_text(atlas), changed)
                again = Atlas()
                for name in atlas.names():
                    again.lay(name, atlas.floor_of(name))
                self.assertEqual(atlas_text(again), changed)
            self.assertGreater(read, 10)

    def test_other_things(self):
        for thing in THINGS + [nested(12, False), ["a\n0\n\n"], ("a\n0\n\n",), ["a", "0", ""], ("0",), [("a", ("0",))]]:
            if thing != "":
                kept = deepcopy(thing)
                self.assertRefused(NoText, read_atlas, thing)
                self.assertEqual(thing, kept)


class Handed(AtlasCase):
    def test_told_lists_are_new(self):
        atlas = self.laid()
        self.assertToldAnew(atlas.names)
        self.assertHas(atlas, self.floors, (3, 0))
        self.assertToldAnew(Atlas().names)

    def test_what_is_asked_again_is_told_again(self):
        atlas = self.laid()
        for ask in [
            atlas.names, atlas.marks, lambda: atlas.floor_of("a"), lambda: atlas_text(atlas),
            lambda: atlas_text(atlas.twin()), lambda: atlas_text(read_atlas(atlas_text(atlas))),
        ]:
            self.assertEqual(ask(), ask())

    def test_what_is_handed_in_stays(self):
        atlas, floor = Atlas(), ("01", "23")
        atlas.lay("a", floor)
        told = atlas.turn("a")
        atlas.sign("a", (0, 0), "#")
        self.assertEqual((floor, told), (("01", "23"), ("20", "31")))
        self.assertEqual(atlas.floor_of("a"), ("#0", "31"))
