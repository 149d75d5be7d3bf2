import unittest
from itertools import permutations, product

from addednames.books import Book
from addednames.given import cuts_off, given_names, gives, reached, reached_past, seen
from addednames.worlds import World
from support import STRANGE, Greedy, Touchy, expect, expect_error

OWN, BOTH = Book(), Book(given="both")
ANY = (*STRANGE, Greedy(), Touchy(), "z", "k", "a", 1, ["l"], ("l",))


def diamond():
    """l gives on m and n, both give on o."""
    return World([
        ("l", [], ["m", "n"], []),
        ("m", [("a", 1)], ["o"], []),
        ("n", [], ["o"], []),
        ("o", [("a", 2), ("b", 3)], [], []),
    ])


def row():
    """l gives on m, m on n, n on o; another library stands alone."""
    return World(
        [
            ("o", [("a", 1), ("d", 2)], [], []),
            ("n", [("b", 3)], ["o"], []),
            ("m", [("a", 4), ("c", 5)], ["n"], []),
            ("l", [], ["m"], [("k", "s", 6)]),
            ("p", [("a", 7), ("e", 8)], [], []),
        ],
        [("k", None, [("t", 9)])],
    )


def ring():
    """l, m and n in a ring, with a library o aside."""
    return World([
        ("l", [("a", 1)], ["m"], []),
        ("m", [("b", 2)], ["n", "o"], []),
        ("n", [("a", 3)], ["l"], []),
        ("o", [("c", 4)], ["m"], []),
    ])


class ReachedTest(unittest.TestCase):
    def test_in_order(self):
        expect(self, ["l", "m", "n", "o"], reached(diamond(), "l"))
        expect(self, ["m", "o"], reached(diamond(), "m"))
        expect(self, ["o"], reached(library="o", world=diamond()))
        expect(self, ["l", "m", "n", "o"], reached(row(), "l"))
        expect(self, ["p"], reached(row(), "p"))

    def test_nearer_ones_come_first(self):
        world = World([
            ("l", [], ["n", "m"], []),
            ("m", [], ["r"], []),
            ("n", [], ["o", "m", "l"], []),
            ("o", [], ["p"], []),
            ("p", [], [], []),
            ("r", [], [], []),
        ])
        expect(self, ["l", "n", "m", "o", "r", "p"], reached(world, "l"))

    def test_rings(self):
        expect(self, ["l", "m", "n", "o"], reached(ring(), "l"))
        expect(self, ["n", "l", "m", "o"], reached(ring(), "n"))
        expect(self, ["o", "m", "n", "l"], reached(ring(), "o"))

    def test_a_new_list(self):
        world = diamond()
        reached(world, "l").clear()
        expect(self, ["l", "m", "n", "o"], reached(world, "l"))


class ReachedPastTest(unittest.TestCase):
    def test_without_an_avoided_library(self):
        for world in [diamond(), row(), ring()]:
            for library in world.library_names():
                expect(self, reached(world, library), reached_past(world, library, None))

    def test_what_is_cut_off_is_left_out(self):
        expect(self, ["l", "n", "o"], reached_past(diamond(), "l", "m"))
        expect(self, ["l", "m", "n"], reached_past(diamond(), "l", "o"))
        expect(self, ["l", "m"], reached_past(row(), "l", "n"))
        expect(self, ["n"], reached_past(ring(), "n", "l"))
        expect(self, [], reached_past(ring(), "n", "n"))


class CutsOffTest(unittest.TestCase):
    def check(self, world, library, pairs):
        """Exactly these pairs (keeper, other) are cut off."""
        names = world.library_names()
        found = [(keeper, other) for keeper in names for other in names if cuts_off(world, library, keeper, other)]
        self.assertEqual(sorted(found), sorted(pairs))

    def test_a_diamond(self):
        self.check(diamond(), "l", [("l", "m"), ("l", "n"), ("l", "o")])
        self.check(diamond(), "m", [("m", "o")])
        self.check(diamond(), "o", [])

    def test_a_row(self):
        pairs = [("l", "m"), ("l", "n"), ("l", "o"), ("m", "n"), ("m", "o"), ("n", "o")]
        self.check(row(), "l", pairs)
        self.check(row(), "n", [("n", "o")])
        self.check(row(), "p", [])

    def test_rings(self):
        self.check(ring(), "l", [("l", "m"), ("l", "n"), ("l", "o"), ("m", "n"), ("m", "o")])
        self.check(ring(), "o", [("o", "m"), ("o", "n"), ("o", "l"), ("m", "n"), ("m", "l"), ("n", "l")])

    def test_truths(self):
        expect(self, True, cuts_off(row(), "l", "m", "o"))
        expect(self, False, cuts_off(diamond(), "l", "m", "o"))
        expect(self, False, cuts_off(row(), "l", "l", "l"))
        expect(self, False, cuts_off(row(), "l", "m", "l"))
        expect(self, False, cuts_off(row(), "l", "l", "p"))
        expect(self, True, cuts_off(other="o", keeper="l", library="l", world=row()))


class SeenTest(unittest.TestCase):
    def test_the_own_one_is_ahead(self):
        expect(self, ["m", "o"], seen(diamond(), OWN, "l", "a"))
        expect(self, ["m"], seen(diamond(), OWN, "m", "a"))
        expect(self, ["o"], seen(diamond(), OWN, "n", "a"))
        expect(self, ["m"], seen(row(), OWN, "l", "a"))
        expect(self, ["m", "o"], seen(row(), BOTH, "l", "a"))
        expect(self, ["m", "o"], seen(diamond(), BOTH, "m", "a"))
        expect(self, ["o"], seen(row(), OWN, "n", "a"))
        expect(self, [], seen(row(), OWN, "l", "e"))
        expect(self, [], seen(row(), BOTH, "l", "e"))
        expect(self, ["o"], seen(name="b", library="l", book=OWN, world=diamond()))

    def test_rings(self):
        expect(self, ["l"], seen(ring(), OWN, "l", "a"))
        expect(self, ["l", "n"], seen(ring(), BOTH, "l", "a"))
        expect(self, ["n"], seen(ring(), OWN, "m", "a"))
        expect(self, ["n", "l"], seen(ring(), BOTH, "m", "a"))
        expect(self, ["m"], seen(ring(), OWN, "n", "b"))

    def test_in_the_order_of_reached(self):
        # From l, the ways to p that avoid n lead over q; reached meets p ahead of s, by n.
        world = World([
            ("l", [], ["n", "q"], []),
            ("n", [("a", 1)], ["p"], []),
            ("q", [], ["s"], []),
            ("p", [("a", 2)], [], []),
            ("s", [("a", 4), ("b", 5)], [], []),
            ("t", [], ["l"], []),
        ])
        expect(self, ["l", "n", "q", "p", "s"], reached(world, "l"))
        expect(self, ["n", "s"], seen(world, OWN, "l", "a"))
        expect(self, ["n", "p", "s"], seen(world, BOTH, "l", "a"))
        world = World([
            ("l", [], ["n", "q"], []),
            ("n", [("a", 1)], ["p"], []),
            ("q", [], ["s", "p"], []),
            ("p", [("a", 2)], [], []),
            ("s", [("a", 4)], [], []),
        ])
        expect(self, ["n", "p", "s"], seen(world, OWN, "l", "a"))


class GivesTest(unittest.TestCase):
    def test_each_answer(self):
        expect(self, ("clash",), gives(diamond(), OWN, "l", "a"))
        expect(self, ("found", 3), gives(diamond(), OWN, "l", "b"))
        expect(self, ("nothing",), gives(diamond(), OWN, "l", "c"))
        expect(self, ("found", 1), gives(diamond(), OWN, "m", "a"))
        expect(self, ("clash",), gives(diamond(), BOTH, "m", "a"))
        expect(self, ("found", 2), gives(diamond(), BOTH, "n", "a"))
        expect(self, ("found", 4), gives(row(), OWN, "l", "a"))
        expect(self, ("clash",), gives(row(), BOTH, "l", "a"))
        expect(self, ("nothing",), gives(row(), OWN, "l", "s"))
        expect(self, ("nothing",), gives(row(), OWN, "l", "t"))
        expect(self, ("found", 8), gives(name="e", library="p", book=BOTH, world=row()))

    def test_a_thing_by_several_ways_is_one_thing(self):
        for book in [OWN, BOTH]:
            expect(self, ("found", 3), gives(diamond(), book, "l", "b"))
            expect(self, ("found", 4), gives(ring(), book, "n", "c"))

    def test_the_order_does_not_count(self):
        # All worlds of three libraries, each of which gives on any others and may have the name.
        names = ("l", "m", "n")
        links = [(one, other) for one in names for other in names if one != other]
        for chosen in product([False, True], repeat=len(links)):
            below = {one: [b for use, (a, b) in zip(chosen, links) if use and a == one] for one in names}
            for holders in product([False, True], repeat=3):
                self.check_orders(names, below, dict(zip(names, holders)))

    def check_orders(self, names, below, holders):
        things = {"l": 1, "m": 2, "n": 3}
        answers = []
        for order in permutations(names):
            for turn in (1, -1):
                rows = [(n, [("a", things[n])] if holders[n] else [], below[n][::turn], []) for n in order]
                world = World(rows)
                answers.append([gives(world, book, name, "a") for book in (OWN, BOTH) for name in names])
        for answer in answers:
            self.assertEqual(answer, answers[0])
        wanted = [self.answer(names, below, holders, given, name) for given in ("own", "both") for name in names]
        self.assertEqual(answers[0], wanted)

    def answer(self, names, below, holders, given, library):
        """What is given, found by going through all ways that meet no library twice."""
        things = {"l": 1, "m": 2, "n": 3}
        found = set()
        ways = [[library]]
        while ways:
            way = ways.pop()
            if holders[way[-1]] and (given == "both" or not any(holders[name] for name in way[:-1])):
                found.add(way[-1])
            ways.extend([[*way, name] for name in below[way[-1]] if name not in way])
        if len(found) == 1:
            return ("found", things[found.pop()])
        return ("clash",) if found else ("nothing",)


class GivenNamesTest(unittest.TestCase):
    def test_ascending(self):
        for book in [OWN, BOTH]:
            expect(self, ["a", "b", "c", "d"], given_names(row(), book, "l"))
            expect(self, ["a", "b", "d"], given_names(row(), book, "n"))
            expect(self, ["a", "e"], given_names(row(), book, "p"))
            expect(self, ["a", "b"], given_names(diamond(), book, "l"))
            expect(self, ["a", "b", "c"], given_names(ring(), book, "o"))
            expect(self, [], given_names(World([("l", [], ["m"], []), ("m", [], [], [])]), book, "l"))
        expect(self, ["a", "e"], given_names(library="p", book=OWN, world=row()))

    def test_as_python_sorts_them(self):
        names = ["b", "ab", "aa", "a", "zz", "z", "abc"]
        rows = [(name, index + 1) for index, name in enumerate(names)]
        world = World([("l", rows[:3], ["m"], []), ("m", rows[3:], [], [])])
        expect(self, ["a", "aa", "ab", "abc", "b", "z", "zz"], given_names(world, OWN, "l"))

    def test_they_are_given(self):
        for world in [diamond(), row(), ring()]:
            for book in [OWN, BOTH]:
                for library in world.library_names():
                    names = [n for n in "abcdefgst" if gives(world, book, library, n) != ("nothing",)]
                    expect(self, names, given_names(world, book, library))


class UnknownNameTest(unittest.TestCase):
    def test_libraries(self):
        for value in ANY:
            for world in [row(), World()]:
                expect_error(self, "UnknownName", value, reached, world, value)
                expect_error(self, "UnknownName", value, cuts_off, world, value, "l", "m")
                for book in [OWN, BOTH]:
                    expect_error(self, "UnknownName", value, seen, world, book, value, "a")
                    expect_error(self, "UnknownName", value, gives, world, book, value, "a")
                    expect_error(self, "UnknownName", value, given_names, world, book, value)

    def test_from_left_to_right(self):
        for value in ANY:
            expect_error(self, "UnknownName", value, cuts_off, row(), value, None, None)
            expect_error(self, "UnknownName", value, cuts_off, row(), "l", value, "m")
            expect_error(self, "UnknownName", value, cuts_off, row(), "l", value, None)
            expect_error(self, "UnknownName", value, cuts_off, row(), "l", "m", value)
            expect_error(self, "UnknownName", value, cuts_off, row(), "l", "l", value)
            expect_error(self, "UnknownName", value, cuts_off, row(), "o", "p", value)
            expect_error(self, "UnknownName", value, cuts_off, row(), "l", value, value)


class ExampleTest(unittest.TestCase):
    def test_the_example_of_the_document(self):
        world = diamond()
        told = [reached(world, "l"), seen(world, Book(), "l", "a"), seen(world, Book(), "m", "a")]
        expect(self, [["l", "m", "n", "o"], ["m", "o"], ["m"]], told)
        told = [gives(world, Book(), "l", "a"), gives(world, Book(), "l", "b"), cuts_off(world, "l", "m", "o")]
        expect(self, [("clash",), ("found", 3), False], told)


if __name__ == "__main__":
    unittest.main()
