"""Points 33 and 34: towns."""

from forkflags.errors import InvalidTown, UnknownHall, UnknownWriter
from forkflags.towns import hall_at, halls_of, house_of, houses_of, is_town, ways_to
from tests.helpers import LETTERS, NO_NAMES, Case, nested

TOWN = (("a", "b"), ("c",))
GREAT = ((("b", "zz"), ("m",), ("c", "a", "y")), ("abcdefgh",))
WIDE = (("g", "a"), (("c",), (("d",), ("f",)), ("b",)), ("h",), ("e",))


def deep_town(depth):
    """Return a town that is nested this deep, with as many names."""
    town = ("a",)
    for letter in LETTERS[1:depth]:
        town = (town, (letter,))
    return town


TOWNS = [
    ("a",), ("b", "a"), tuple(LETTERS[:8]), TOWN, GREAT, WIDE, (("a",), ("b",)), tuple([(name,) for name in LETTERS[:8]]),
    ((("a",), ("b",)), (("c",), ("d",))), deep_town(5), deep_town(6), (deep_town(5), ("x", "y", "z")),
    (("x",), deep_town(5)),
]
NO_TOWNS = [value for value in NO_NAMES if value not in [("a",), ("a", "b")]] + [
    "a", "abc", ((),), ((), ()), (("a",),), ((("a",), ("b",)),), (("a",), ()), ("a", ("b",)), (("a",), "b"),
    (("a", ("b",)), ("c",)), ("a", "a"), ("a", "b", "a"), (("a",), ("a",)), (("a", "b"), (("c",), ("b",))),
    tuple(LETTERS[:9]), (tuple(LETTERS[:4]), tuple(LETTERS[4:9])), tuple([(name,) for name in LETTERS[:9]]),
    deep_town(7), (deep_town(6), ("x",)), (("x",), deep_town(6)), ["a"], (["a"], ["b"]), (("a",), ["b"]),
    [("a",), ("b",)], ("A",), ("a", ""), ("a", "B"), (("a",), ("B",)), (("a",), ("abcdefghi",)), ("a", None),
    (("a",), None), (("a",), ("b", 1)), (("a",), 1), ("a", True), ({"a": 1},), ({}, {}), tuple(LETTERS) * 1000,
    nested(("a",), 99, lambda value: (value, value)), nested((), 99, lambda value: (value, value)),
    nested(("a",), 99, lambda value: (value,)), nested(("a",), 5, lambda value: (value,) * 50),
    nested((), 5, lambda value: (value,) * 50), nested("a", 99, lambda value: [value]),
    (("a",), nested("b", 90, lambda value: (value, value))),
]


def plain_halls(town, hall=""):
    """Return a dict from the names of the halls to the halls, found without the program."""
    found = {hall: town}
    if not isinstance(town[0], str):
        for index, entry in enumerate(town):
            found.update(plain_halls(entry, hall + str(index)))
    return found


def plain_houses(town):
    """Return a dict from the names of the houses to the houses."""
    return {name: hall for name, hall in plain_halls(town).items() if isinstance(hall[0], str)}


def plain_ways(town, house):
    halls = plain_halls(town)
    ways = 1
    for level in range(len(house)):
        ways *= len(halls[house[:level]])
    return ways


class TownTest(Case):

    def test_towns(self):
        for town in TOWNS:
            self.gives(True, is_town, town)

    def test_no_towns(self):
        for value in NO_TOWNS:
            self.gives(False, is_town, value)
            self.fails(InvalidTown, {}, halls_of, value)
            self.fails(InvalidTown, {}, houses_of, value)
            self.fails(InvalidTown, {}, house_of, value, "zz")
            self.fails(InvalidTown, {}, hall_at, value, "zz")
            self.fails(InvalidTown, {}, ways_to, value, "zz")

    def test_depth(self):
        for depth in range(1, 9):
            self.gives(depth <= 6, is_town, deep_town(depth))

    def test_names(self):
        for many in range(1, 12):
            self.gives(many <= 8, is_town, tuple(LETTERS[:many]))
            self.gives(many <= 7, is_town, (tuple(LETTERS[:many]), ("x",)))


class HallsTest(Case):

    def test_written_out(self):
        self.gives_new(["", "0", "1"], halls_of, TOWN)
        self.gives_new(["0", "1"], houses_of, TOWN)
        self.gives_new(["", "0", "1", "10", "11", "110", "111", "12", "2", "3"], halls_of, WIDE)
        self.gives_new(["0", "10", "110", "111", "12", "2", "3"], houses_of, WIDE)
        self.gives((("d",), ("f",)), hall_at, WIDE, "11")
        self.gives("111", house_of, WIDE, "f")
        for house, ways in [("0", 4), ("10", 12), ("110", 24), ("111", 24), ("12", 12), ("2", 4), ("3", 4)]:
            self.gives(ways, ways_to, WIDE, house)

    def test_all_towns(self):
        for town in TOWNS:
            halls = plain_halls(town)
            houses = plain_houses(town)
            self.gives_new(list(halls), halls_of, town)
            self.gives_new(list(houses), houses_of, town)
            for name, hall in halls.items():
                self.gives(hall, hall_at, town, name)
            for name, house in houses.items():
                self.gives(plain_ways(town, name), ways_to, town, name)
                for writer in house:
                    self.gives(name, house_of, town, writer)

    def test_house_that_is_the_whole_town(self):
        for town in [("a",), ("b", "a"), tuple(LETTERS[:8])]:
            self.gives_new([""], halls_of, town)
            self.gives_new([""], houses_of, town)
            self.gives("", house_of, town, town[-1])
            self.gives(town, hall_at, town, "")
            self.gives(1, ways_to, town, "")

    def test_six_deep(self):
        town = deep_town(6)
        self.gives_new(["", "0", "00", "000", "0000", "00000", "00001", "0001", "001", "01", "1"], halls_of, town)
        self.gives(32, ways_to, town, "00000")
        self.gives("00000", house_of, town, "a")

    def test_unknown(self):
        for hall in ["2", "00", "01", "a", "x", "-1", None, 0, True, ["0"], {}, (), ("0",)]:
            self.fails(UnknownHall, {"hall": hall}, hall_at, TOWN, hall)
            self.fails(UnknownHall, {"hall": hall}, ways_to, TOWN, hall)
        for hall in ["", "1", "11"]:
            self.fails(UnknownHall, {"hall": hall}, ways_to, WIDE, hall)
        for writer in ["d", "", "A", "0", None, 0, True, ["a"], {}, ("a", "b"), ("c",)]:
            self.fails(UnknownWriter, {"writer": writer}, house_of, TOWN, writer)
