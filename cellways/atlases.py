"""Atlases of floors by names, which go back and forth, and their texts."""

from cellways.errors import NoBack, NoFloor, NoName, NoText
from cellways.floors import is_floor, need_on_floor, need_sign, with_sign
from cellways.grounds import mirrored_floor, set_below, set_beside, turned_floor
from cellways.texts import written_floor

LETTERS = "abcdefghijklmnopqrstuvwxyz"
LONGEST_NAME = 6


def is_name(thing):
    if not isinstance(thing, str) or not 1 <= len(thing) <= LONGEST_NAME:
        return False
    return all([letter in LETTERS for letter in thing])


def need_name(thing):
    if not is_name(thing):
        raise NoName("a name has 1 to 6 letters a to z")


# Each step changes the floor of one name alone. So it is kept as its word, this name, and the floors that the name
# has ahead of it and behind it, None where it has none.
class Atlas:
    def __init__(self):
        self.floors = {}
        self.done = []
        self.undone = []

    def give(self, name, floor):
        if floor is None:
            self.floors.pop(name)
        else:
            self.floors[name] = floor

    def step(self, word, name, floor):
        self.done.append((word, name, self.floors.get(name), floor))
        self.undone = []
        self.give(name, floor)

    def lay(self, name, floor):
        if not is_floor(floor):
            raise NoFloor("this is no floor")
        need_name(name)
        had_one = name in self.floors
        self.step("lay", name, floor)
        return had_one

    # Any thing may be asked for, and a list can't be looked up: so it must be a name first.
    def floor_of(self, name):
        need_name(name)
        if name not in self.floors:
            raise NoName("no floor has this name")
        return self.floors[name]

    def take(self, name):
        floor = self.floor_of(name)
        self.step("take", name, None)
        return floor

    def join(self, name, is_east, one, other):
        need_name(name)
        first = self.floor_of(one)
        second = self.floor_of(other)
        joined = set_beside(first, second) if is_east else set_below(first, second)
        self.step("join", name, joined)
        return joined

    def turn(self, name):
        turned = turned_floor(self.floor_of(name))
        self.step("turn", name, turned)
        return turned

    def mirror(self, name):
        mirrored = mirrored_floor(self.floor_of(name))
        self.step("mirror", name, mirrored)
        return mirrored

    def sign(self, name, spot, sign):
        floor = self.floor_of(name)
        need_on_floor(floor, spot)
        need_sign(sign)
        self.step("sign", name, with_sign(floor, spot, sign))
        return floor[spot[0]][spot[1]]

    def names(self):
        return sorted(self.floors)

    def back(self):
        if len(self.done) == 0:
            raise NoBack("there is nothing to take back")
        step = self.done.pop()
        self.undone.append(step)
        self.give(step[1], step[2])
        return step[0]

    def forth(self):
        if len(self.undone) == 0:
            raise NoBack("there is nothing to do again")
        step = self.undone.pop()
        self.done.append(step)
        self.give(step[1], step[3])
        return step[0]

    def marks(self):
        return (len(self.done), len(self.undone))

    def twin(self):
        other = Atlas()
        other.floors = dict(self.floors)
        other.done = list(self.done)
        other.undone = list(self.undone)
        return other


def atlas_text(atlas):
    return "".join([name + "\n" + written_floor(atlas.floor_of(name)) + "\n" for name in atlas.names()])


# A name and the floor below it, up to the line without signs, which is left out.
def read_page(page):
    lines = page.split("\n")
    name = lines[0]
    floor = tuple(lines[1:])
    if not is_name(name) or not is_floor(floor):
        raise NoText("this is not the writing of a name and a floor")
    return (name, floor)


def read_pages(text):
    if text == "":
        return []
    if not text.endswith("\n\n"):
        raise NoText("the last line without signs is not there")
    return [read_page(page) for page in text[:-2].split("\n\n")]


def read_atlas(text):
    if not isinstance(text, str):
        raise NoText("this is no text")
    pages = read_pages(text)
    if not all([one[0] < other[0] for one, other in zip(pages, pages[1:])]):
        raise NoText("the names do not rise")
    atlas = Atlas()
    atlas.floors = dict(pages)
    return atlas
