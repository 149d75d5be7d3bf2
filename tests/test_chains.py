import unittest

from addednames.chains import chain, heirs, nearest
from addednames.worlds import World
from support import STRANGE, Greedy, Touchy, expect, expect_error

LONG = ["abcdefghij"[index // 10] + "abcdefghij"[index % 10] for index in range(100)]


def family():
    """Two trees of classes, whose rows stand mixed."""
    return World(
        [("l", [("a", 90)], [], [("g", "s", 91)])],
        [
            ("g", None, [("a", 1), ("b", 2)]),
            ("p", None, [("a", 3)]),
            ("f", "g", [("b", 4), ("c", 5)]),
            ("q", "p", []),
            ("s", "f", [("d", 6)]),
            ("u", "g", []),
            ("t", "s", [("a", 7)]),
        ],
    )


def line():
    elders = [None, *LONG[:-1]]
    rows = zip(LONG, elders, range(1, 101))
    return World([], [(name, elder, [("a" if thing % 40 == 1 else "b", thing)]) for name, elder, thing in rows])


class ChainTest(unittest.TestCase):
    def test_chains(self):
        for name, names in [
            ("g", ["g"]),
            ("p", ["p"]),
            ("f", ["f", "g"]),
            ("q", ["q", "p"]),
            ("s", ["s", "f", "g"]),
            ("u", ["u", "g"]),
            ("t", ["t", "s", "f", "g"]),
        ]:
            expect(self, names, chain(family(), name))
        expect(self, ["q", "p"], chain(name="q", world=family()))

    def test_a_long_chain(self):
        expect(self, LONG[::-1], chain(line(), LONG[-1]))
        expect(self, LONG[:1], chain(line(), LONG[0]))

    def test_a_new_list(self):
        world = family()
        chain(world, "t").clear()
        expect(self, ["t", "s", "f", "g"], chain(world, "t"))


class NearestTest(unittest.TestCase):
    def test_distances(self):
        for name, member, distance in [
            ("g", "a", 0),
            ("g", "b", 0),
            ("g", "c", None),
            ("f", "a", 1),
            ("f", "b", 0),
            ("s", "a", 2),
            ("s", "b", 1),
            ("s", "c", 1),
            ("s", "d", 0),
            ("t", "a", 0),
            ("t", "b", 2),
            ("t", "c", 2),
            ("t", "d", 1),
            ("t", "z", None),
            ("g", "s", None),
            ("q", "a", 1),
            ("q", "b", None),
            ("u", "d", None),
        ]:
            expect(self, distance, nearest(family(), name, member))
        expect(self, 1, nearest(member="a", name="f", world=family()))

    def test_a_long_chain(self):
        # The classes at 0, 40 and 80 have the member a.
        for index, distance in [(0, 0), (39, 39), (40, 0), (79, 39), (99, 19)]:
            expect(self, distance, nearest(line(), LONG[index], "a"))
        expect(self, None, nearest(line(), LONG[99], "c"))


class HeirsTest(unittest.TestCase):
    def test_heirs(self):
        for name, names in [
            ("g", ["f", "s", "u", "t"]),
            ("p", ["q"]),
            ("f", ["s", "t"]),
            ("q", []),
            ("s", ["t"]),
            ("u", []),
            ("t", []),
        ]:
            expect(self, names, heirs(family(), name))
        expect(self, ["q"], heirs(name="p", world=family()))

    def test_a_long_chain(self):
        expect(self, LONG[1:], heirs(line(), LONG[0]))
        expect(self, LONG[51:], heirs(line(), LONG[50]))
        expect(self, [], heirs(line(), LONG[99]))


class UnknownNameTest(unittest.TestCase):
    def test_any_value(self):
        for value in [*STRANGE, Greedy(), Touchy(), "z", "l", "a", 1, ["g"], ("g",)]:
            for world in [family(), World()]:
                expect_error(self, "UnknownName", value, chain, world, value)
                expect_error(self, "UnknownName", value, nearest, world, value, "a")
                expect_error(self, "UnknownName", value, heirs, world, value)


if __name__ == "__main__":
    unittest.main()
