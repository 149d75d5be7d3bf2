import random
import unittest

import model
from addednames.additions import Addition
from addednames.books import Book
from addednames.callers import Caller
from addednames.effects import effect, new_thing, places_for
from addednames.papers import is_safe
from addednames.problems import problems
from addednames.touching import fresh_name, risk_ways, risks, touching, touching_names
from addednames.views import View
from addednames.worlds import World
from chance import NAMES, all_additions, right_views
from support import STRANGE, Greedy, Touchy, expect, expect_error

ANY = (*STRANGE, Greedy(), Touchy(), "z", "a", 1, ["l"], ("l",))


def small():
    """l gives on m and n, m on o; classes g and k."""
    return World(
        [("l", [], ["m", "n"], []), ("m", [("a", 1)], ["o"], []), ("n", [("b", 2)], [], []), ("o", [], [], [("k", "s", 3)])],
        [("g", None, []), ("k", "g", [("x", 4)])],
    )


def view(book=None, imports=(("all", "l"),), **parts):
    return View(Caller(small(), imports, **parts), Book() if book is None else book)


class TouchingTest(unittest.TestCase):
    def check(self, wanted, one, **grown):
        expect(self, wanted, touching(one, **grown))
        names = sorted({place[-1] for place, _ in wanted})
        expect(self, names, touching_names(one, **grown))

    def test_names(self):
        one = view(uses=[("name", None, "b"), ("name", None, "a")])
        wanted = [
            (("name", "l", "a"), "changes"),
            (("name", "n", "a"), "breaks"),
            (("name", "l", "b"), "changes"),
            (("name", "m", "b"), "breaks"),
            (("name", "o", "b"), "breaks"),
        ]
        self.check(wanted, one)
        self.check(wanted, one, libraries=None, classes=None)
        self.check(wanted[3:4], one, libraries=["m"])
        self.check([wanted[1], wanted[4]], one, libraries=["o", "n", "o"], classes=("k", "k"))
        self.check([], one, libraries=[])
        self.check(wanted, one, classes=[])

    def test_members_and_spreads(self):
        one = view(uses=[("member", "k", "x"), ("member", "k", "s")], book=Book(spreads="spread"))
        wanted = [
            (("spread", "l", "k", "s"), "breaks"),
            (("spread", "m", "k", "s"), "breaks"),
            (("spread", "n", "k", "s"), "breaks"),
            *[(("spread", library, owner, "x"), "changes") for library in "lmno" for owner in "gk"],
        ]
        self.check(wanted, one)
        self.check(wanted, one, classes=[])
        self.check(wanted[1:2] + wanted[5:7], one, libraries=("m",), classes=["g"])
        tie = view(uses=[("member", "k", "s")], book=Book(spreads="tie", near=False))
        wanted = [
            (("member", "g", "s"), "breaks"),
            (("member", "k", "s"), "breaks"),
            *[(("spread", x, c, "s"), "breaks") for x in "lmno" for c in "gk" if (x, c) != ("o", "k")],
        ]
        self.check(wanted, tie)
        self.check(wanted[:1], tie, libraries=[], classes=["g", "g"])
        self.check([wanted[1], *wanted[2:4]], tie, libraries=["l"], classes=["k"])

    def test_without_a_use(self):
        imports = [("all", "l"), ("named", "l", "a", "z")]
        classes = [("h", "k", [("y", 11, False), ("x", 12, True), ("b", 13, False)])]
        marks = [("g", "b"), ("k", "b"), ("g", "y"), ("k", "y")]
        members = [(("member", owner, name), "breaks") for owner, name in marks]
        self.check([(("name", "n", "a"), "breaks"), *members], view(Book(marks=True), imports, classes=classes))
        self.check([(("name", "n", "a"), "breaks")], view(Book(), imports, classes=classes))
        self.check(members[:1] + members[2:3], view(Book(marks=True), classes=classes), classes=["g"])
        once = [(("name", "n", "a"), "breaks"), (("name", "m", "b"), "breaks"), (("name", "o", "b"), "breaks")]
        self.check(once, view(Book(alls="once")))
        both = [(("name", x, "a"), "breaks") for x in "lno"] + [(("name", x, "b"), "breaks") for x in "lmo"]
        self.check(both, view(Book(alls="once", given="both")))
        self.check([], view())
        self.check([], view(Book(alls="last", given="both")))

    def test_the_worse_effect_counts(self):
        # The name is seen through both imports; one use changes, and the named import clashes.
        world = World([("l", [], ["m", "n"], []), ("m", [("a", 1)], [], []), ("n", [], ["m"], [])])
        imports = [("named", "l", "a", "b"), ("all", "n")]
        one = View(Caller(world, imports, uses=[("name", None, "a"), ("name", None, "b")]), Book())
        self.check([(("name", "l", "a"), "changes"), (("name", "n", "a"), "breaks")], one)
        self.check([(("name", "n", "a"), "changes")], View(Caller(world, imports[1:], uses=[("name", None, "a")]), Book()))

    def test_views_at_random(self):
        draw, words = random.Random(51), {}
        for one in right_views(500, 52):
            wanted = self.at_all_places(one)
            self.check(wanted, one)
            for _, word in wanted:
                words[word] = words.get(word, 0) + 1
            world = one.caller.world
            libraries = [name for name in world.library_names() if draw.random() < 0.5]
            owners = [name for name in world.class_names() if draw.random() < 0.5]
            rows = [row for row in wanted if row[0][1] in (owners if row[0][0] == "member" else libraries)]
            self.check(rows, one, libraries=libraries[::-1] + libraries, classes=owners[::-1] + owners)
            some = [row for row in wanted if row[0][0] == "member" or row[0][1] in libraries]
            self.check(some, one, libraries=tuple(libraries))
        self.assertGreater(min(words.values()), 100)

    def at_all_places(self, one):
        thing, names = new_thing(one.caller), sorted([*NAMES, "c", fresh_name(one.caller)])
        rows = [(place, effect(one, Addition(place, thing))) for place in places_for(one.caller.world, sorted(set(names)))]
        return [(place, word) for place, word in rows if word != "stays"]

    def test_the_effect_does_not_depend_on_the_thing(self):
        for one in right_views(60, 53):
            for place, word in touching(one):
                for thing in (1000, 1000000000):
                    expect(self, word, effect(one, Addition(place, thing)))

    def test_all_others_leave_each_use(self):
        for one in right_views(60, 54):
            places = [place for place, _ in touching(one)]
            for addition in all_additions(one):
                if addition.place not in places:
                    later = View(one.caller + addition, one.book)
                    expect(self, [], problems(later))
                    expect(self, one.results(), later.results())


class RisksTest(unittest.TestCase):
    def test_pairs(self):
        once = view(Book(alls="once"))
        pairs = [("m", "n"), ("n", "o")]
        expect(self, pairs, risks(once))
        expect(self, pairs, risks(view=once, libraries=None, classes=None))
        expect(self, pairs, risks(once, libraries=["o", "n", "m", "n"], classes=[]))
        expect(self, pairs[:1], risks(once, libraries=("n", "m")))
        expect(self, [], risks(once, libraries=["m", "o", "l"]))
        expect(self, [], risks(once, libraries=[]))
        every = [(one, other) for at, one in enumerate("lmno") for other in "lmno"[at + 1:]]
        expect(self, every, risks(view(Book(alls="once", given="both"))))
        expect(self, [("m", "n"), ("n", "o")], risks(view(Book(alls="once"), [("all", "n"), ("all", "m")])))
        for alls in ("use", "first", "last"):
            expect(self, [], risks(view(Book(alls=alls, given="both"))))
        imports = [("named", "l", "a", "a"), ("whole", "l")]
        expect(self, [], risks(view(Book(alls="once", given="both"), imports)))

    def test_each_through_another_import(self):
        # From l, m is behind o; from n, o is behind m: both are seen, but not from one library.
        world = World([("l", [], ["o"], []), ("o", [], ["m"], []), ("m", [], ["o"], []), ("n", [], ["m"], [])])
        one = View(Caller(world, [("all", "l"), ("all", "n")]), Book(alls="once"))
        wanted = [("l", "o"), ("l", "m"), ("l", "n"), ("o", "m"), ("o", "n"), ("m", "n")]
        expect(self, wanted, risks(one))
        expect(self, wanted, self.by_definition(one))
        expect(self, ((0, ["l", "o"]), (1, ["n", "m"])), risk_ways(one, "o", "m"))

    def by_definition(self, one):
        names, name, found = one.caller.world.library_names(), fresh_name(one.caller), []
        for at, first in enumerate(names):
            for second in names[at + 1:]:
                additions = [Addition(("name", first, name), 1000), Addition(("name", second, name), 1001)]
                later = View(one.caller + additions[0] + additions[1], one.book)
                if ("once", name) in model.wrongs(later):
                    found.append((first, second))
        return found

    def test_views_at_random(self):
        draw, met = random.Random(55), 0
        for one in right_views(300, 56):
            wanted = self.by_definition(one)
            expect(self, wanted, risks(one))
            libraries = [name for name in one.caller.world.library_names() if draw.random() < 0.6]
            rows = [pair for pair in wanted if pair[0] in libraries and pair[1] in libraries]
            expect(self, rows, risks(one, libraries=libraries[::-1]))
            self.check_ways(one, wanted)
            met += len(wanted)
        self.assertGreater(met, 20)

    def check_ways(self, one, pairs):
        names = one.caller.world.library_names()
        for first in names:
            for second in names:
                found = risk_ways(one, first, second)
                if (first, second) not in pairs and (second, first) not in pairs:
                    expect(self, None, found)
                else:
                    self.assertIsInstance(found, tuple)
                    self.check_way(one, found[0], first, second)
                    self.check_way(one, found[1], second, first)

    def check_way(self, one, row, target, other):
        self.assertIsInstance(row, tuple)
        index, way = row
        self.assertIsInstance(way, list)
        self.assertEqual(one.caller.imports[index], ("all", way[0]))
        self.assertEqual(way[-1], target)
        for library, following in zip(way, way[1:]):
            self.assertIn(following, one.caller.world.gives_of(library))
        if one.book.given == "own":
            self.assertNotIn(other, way)


class RiskWaysTest(unittest.TestCase):
    def test_ways(self):
        once = view(Book(alls="once"))
        expect(self, ((0, ["l", "n"]), (0, ["l", "m"])), risk_ways(once, "n", "m"))
        expect(self, ((0, ["l", "m"]), (0, ["l", "n"])), risk_ways(second="n", first="m", view=once))
        expect(self, ((0, ["l", "m", "o"]), (0, ["l", "n"])), risk_ways(once, "o", "n"))
        expect(self, None, risk_ways(once, "m", "o"))
        expect(self, None, risk_ways(once, "l", "m"))
        expect(self, None, risk_ways(once, "m", "m"))
        both = view(Book(alls="once", given="both"), [("named", "l", "a", "a"), ("all", "l")])
        expect(self, ((1, ["l", "m"]), (1, ["l", "m", "o"])), risk_ways(both, "m", "o"))
        expect(self, ((1, ["l"]), (1, ["l", "n"])), risk_ways(both, "l", "n"))
        expect(self, None, risk_ways(view(Book(given="both")), "m", "n"))

    def test_rings(self):
        # From m and n, which give on each other, no way leads to o.
        world = World([("l", [], ["m"], []), ("m", [], ["n"], []), ("n", [], ["m"], []), ("o", [], ["n"], [])])
        one = View(Caller(world, [("all", "l"), ("whole", "o")]), Book(alls="once", given="both"))
        expect(self, None, risk_ways(one, "m", "o"))
        expect(self, ((0, ["l", "m", "n"]), (0, ["l", "m"])), risk_ways(one, "n", "m"))
        one = View(Caller(world, [("all", "l"), ("all", "o")]), Book(alls="once"))
        expect(self, ((0, ["l", "m"]), (1, ["o", "n"])), risk_ways(one, "m", "n"))
        expect(self, ((1, ["o"]), (0, ["l", "m"])), risk_ways(one, "o", "m"))

    def test_errors(self):
        wrong = view(Book(alls="once"), uses=[("name", None, "z")])
        for value in ANY:
            for one in [wrong, view(Book(alls="once")), view()]:
                expect_error(self, "UnknownName", value, risk_ways, one, value, "l")
                expect_error(self, "UnknownName", value, risk_ways, one, value, None)
                expect_error(self, "UnknownName", value, risk_ways, one, "l", value)
                expect_error(self, "UnknownName", value, risk_ways, one, value, value)
        for first, second in [("m", "n"), ("l", "m"), ("m", "m")]:
            expect_error(self, "NotRight", [("use", 0)], risk_ways, wrong, first, second)


class ErrorsTest(unittest.TestCase):
    def test_unknown_names_ahead_of_not_right(self):
        for one in [view(uses=[("name", None, "z")]), view()]:
            for call in [touching, touching_names, risks]:
                for value in [*ANY, "k"]:
                    for rows in [[value], ["l", value], ["l", "l", value, None], (value, "zz")]:
                        expect_error(self, "UnknownName", value, call, one, libraries=rows)
                        expect_error(self, "UnknownName", value, call, one, classes=[None], libraries=rows)
                for value in [*ANY, "l"]:
                    for rows in [[value], ["k", value], ["g", "g", value, None], (value, "zz")]:
                        expect_error(self, "UnknownName", value, call, one, classes=rows)
                        expect_error(self, "UnknownName", value, call, one, libraries=["l"], classes=rows)

    def test_not_right(self):
        wrong = view(Book(marks=True), classes=[("h", "k", [("x", 11, False)])], uses=[("name", None, "z")])
        for call in [touching, touching_names, risks]:
            for grown in [{}, {"libraries": []}, {"libraries": [], "classes": ()}, {"classes": ["k", "k"]}]:
                expect_error(self, "NotRight", [("mark", "h", "x"), ("use", 0)], call, wrong, **grown)

    def test_by_name_alone(self):
        for call in [touching, touching_names, risks]:
            with self.assertRaises(TypeError):
                call(view(), ["l"])


class FreshNameTest(unittest.TestCase):
    def check(self, wanted, libraries=(), owners=(), imports=(), **parts):
        caller = Caller(World(libraries, owners), imports, **parts)
        expect(self, wanted, fresh_name(caller))
        expect(self, wanted, fresh_name(caller=caller))

    def test_all_that_has_a_name(self):
        self.check("a")
        libraries = [("z", [("a", 1), ("g", 13)], [], [("k", "b", 2)]), ("y", [("c", 3)], [], [])]
        owners = [("k", None, [("d", 4)])]
        imports = [("all", "z"), ("named", "z", "a", "f"), ("whole", "z"), ("named", "z", "e", "n")]
        self.check("e", libraries, owners)
        self.check("h", libraries, owners, imports)
        self.check("i", libraries, owners, imports, own=[("h", 11)])
        self.check("i", libraries, owners, imports, uses=[("of", "z", "h")])
        self.check("i", libraries, owners, imports, uses=[("member", "k", "h")])
        self.check("i", libraries, owners, imports, uses=[("name", None, "h")])
        self.check("i", libraries, owners, imports, classes=[("q", None, [("h", 11, False)])])
        self.check("i", libraries, owners, imports, scopes=[("block", None, [("h", 11)])])

    def test_names_of_libraries_and_classes_do_not_count(self):
        libraries, owners = [("a", [], [], [])], [("b", None, [])]
        scopes = [("body", None, "c")]
        self.check("a", libraries, owners, [("all", "a"), ("whole", "a")], classes=[("c", "b", [])], scopes=scopes)

    def test_longer_names(self):
        letters = "abcdefghijklmnopqrstuvwxyz"
        one = [(letter, index + 1) for index, letter in enumerate(letters)]
        self.check("z", own=one[:25])
        self.check("aa", own=one)
        self.check("m", own=[row for row in one if row[0] != "m"])
        two = [("a" + letter, 100 + index) for index, letter in enumerate(letters)]
        self.check("ba", own=one + two)
        self.check("ac", own=one + two[:2] + two[3:])
        every = [(one + two, 1000 + 26 * i + j) for i, one in enumerate(letters) for j, two in enumerate(letters)]
        rows = [("l" + letters[at], every[97 * at: 97 * at + 97], [], []) for at in range(7)]
        self.check("aaa", rows, own=one)
        self.check("zz", [*rows[:6], ("l" + letters[6], every[97 * 6: -1], [], [])], own=one)
        self.check("b", rows, own=[row for row in one if row[0] != "b"])


class NothingChangesTest(unittest.TestCase):
    def test_views_and_lists(self):
        once = view(Book(alls="once"))
        libraries, classes = ["n", "m", "n"], ["k"]
        for call in [touching, touching_names, risks]:
            first = call(once, libraries=libraries, classes=classes)
            call(once, libraries=libraries, classes=classes).clear()
            expect(self, first, call(once, libraries=libraries, classes=classes))
        expect(self, [["n", "m", "n"], ["k"]], [libraries, classes])
        ways = risk_ways(once, "n", "m")
        ways[0][1].clear()
        expect(self, ((0, ["l", "n"]), (0, ["l", "m"])), risk_ways(once, "n", "m"))
        fresh_name(once.caller)
        self.assertTrue(once == view(Book(alls="once")))


class ExampleTest(unittest.TestCase):
    def test_the_example_of_the_document(self):
        world = World([("l", [], ["m", "n"], []), ("m", [("a", 1)], [], []), ("n", [], [], [])])
        caller = Caller(world, [("all", "l")], uses=[("name", None, "a")])
        one = View(caller, Book(alls="once"))
        expect(self, [(("name", "l", "a"), "changes"), (("name", "n", "a"), "breaks")], touching(one))
        told = [risks(one), risk_ways(one, "n", "m"), is_safe(one), is_safe(one, libraries=["m"])]
        expect(self, [[("m", "n")], ((0, ["l", "n"]), (0, ["l", "m"])), False, True], told)


if __name__ == "__main__":
    unittest.main()
