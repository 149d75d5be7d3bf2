import random
import unittest
from itertools import combinations

from addednames.additions import Addition
from addednames.books import Book
from addednames.callers import Caller
from addednames.effects import effect
from addednames.papers import demands, is_safe, paper
from addednames.problems import is_right
from addednames.touching import fresh_name, risks, touching
from addednames.views import View
from addednames.worlds import World
from chance import all_additions, draw_growing, right_views, views
from papers_model import demanded, grower, meeting_rows, met
from support import STRANGE, Greedy, Touchy, expect, expect_error

ANY = (*STRANGE, Greedy(), Touchy(), "z", "a", 1, ["l"], ("l",))
CALLS = (is_safe, demands, paper)


def small():
    """l gives on m and n, m on o, which gives on l; class k below g."""
    return World(
        [("l", [], ["m", "n"], []), ("m", [("a", 1)], ["o"], []), ("n", [("b", 2)], [], []), ("o", [], ["l"], [])],
        [("g", None, [("x", 4)]), ("k", "g", [])],
    )


def bare():
    """l gives on m and n, m on o; nothing has a name."""
    return World([("l", [], ["m", "n"], []), ("m", [], ["o"], []), ("n", [], [], []), ("o", [], [], [])])


def view(book=None, imports=(("all", "l"),), **parts):
    return View(Caller(small(), imports, **parts), Book() if book is None else book)


def once(given="own", imports=(("all", "l"),), **parts):
    return view(Book(alls="once", given=given), imports, **parts)


def wrong():
    return view(Book(marks=True), classes=[("h", "k", [("x", 11, False)])], uses=[("name", None, "z")])


class SafeTest(unittest.TestCase):
    def check(self, wanted, one, **grown):
        expect(self, wanted, is_safe(one, **grown))

    def test_uses(self):
        one = view(uses=[("name", None, "a")])
        self.check(False, one)
        self.check(False, one, libraries=None, classes=None)
        self.check(False, one, libraries=["n"])
        self.check(False, one, libraries=["o", "l"], classes=[])
        self.check(True, one, libraries=["o"])
        self.check(True, one, libraries=("m", "o", "m"))
        self.check(True, one, libraries=[])
        self.check(True, view())
        self.check(True, view(Book(alls="last", given="both")))

    def test_classes(self):
        one = view(uses=[("member", "k", "x")])
        self.check(False, one)
        self.check(False, one, libraries=[])
        self.check(False, one, classes=["k"])
        self.check(True, one, classes=["g", "g"])
        self.check(True, one, classes=())
        self.check(False, view(Book(spreads="tie"), uses=[("member", "k", "x")]), classes=[])
        self.check(True, view(Book(spreads="tie"), uses=[("member", "k", "x")]), libraries=[], classes=[])

    def test_risks(self):
        one = View(Caller(bare(), [("all", "l")]), Book(alls="once"))
        self.check(False, one)
        self.check(True, one, libraries=["m", "o", "l"])
        self.check(False, one, libraries=["n", "m"])
        self.check(False, one, libraries=["o", "n", "o"], classes=[])
        both = View(Caller(bare(), [("all", "l")]), Book(alls="once", given="both"))
        self.check(True, both, libraries=["o", "o"])
        self.check(False, both, libraries=["m", "o"])
        self.check(True, View(both.caller, Book(given="both")))

    def test_a_caller_that_is_not_right(self):
        for grown in [{}, {"libraries": []}, {"libraries": [], "classes": []}, {"classes": ["k", "k"]}]:
            self.check(False, wrong(), **grown)
        for one in views(200, 71):
            if not is_right(one):
                self.check(False, one)
                self.check(False, one, libraries=[], classes=[])

    def test_sets_of_one_and_two_additions(self):
        draw, told = random.Random(72), {}
        rows = right_views(60, 73, libraries="lm", classes="g") + right_views(25, 74, libraries="lmn", classes="")
        for given in ("own", "both"):
            rows += right_views(15, 75, book=Book(alls="once", given=given), libraries="lm", classes="g")
        for one in rows:
            touched = self.touching_sets(one)
            for grown in [{}, draw_growing(draw, one.caller.world), draw_growing(draw, one.caller.world)]:
                grows = grower(one, **grown)
                sizes = [len(places) for places in touched if all(grows(place) for place in places)]
                self.check(sizes == [], one, **grown)
                least = min(sizes, default=0)
                told[least] = told.get(least, 0) + 1
        # Some are safe, some are touched by one addition, and some by two, but not by one.
        self.assertGreater(min(told[0], told[1], 10 * told[2]), 40)

    def touching_sets(self, one):
        """The places of all sets of one or two additions that touch, for the names of the caller and a fresh one."""
        names = {"a", "b", fresh_name(one.caller)}
        singles = [(row,) for row in all_additions(one, sorted(names))]
        twos = [(a, Addition(b.place, 10000)) for (a,), (b,) in combinations(singles, 2)]
        return [[row.place for row in rows] for rows in [*singles, *twos] if effect(one, *rows) != "stays"]


class DemandsTest(unittest.TestCase):
    def check(self, wanted, one, **grown):
        expect(self, wanted, demands(one, **grown))

    def test_names(self):
        one = view(uses=[("name", None, "b"), ("name", None, "a")], own=[("b", 11)])
        wanted = [("use", 0, ("all", 0, x)) for x in "lmo"] + [("use", 1, ("all", 0, x)) for x in "lno"]
        self.check(wanted, one)
        self.check(wanted, one, libraries=None, classes=None)
        self.check(wanted, one, classes=["k"])
        self.check([wanted[0], wanted[3], wanted[4]], one, libraries=["n", "l", "n"])
        self.check([], one, libraries=[])
        imports = [("named", "l", "a", "c"), ("whole", "m"), ("named", "o", "b", "b")]
        one = view(imports=imports, uses=[("name", None, "c"), ("of", "m", "a")])
        wanted = [
            *[("use", 0, ("named", 0, x)) for x in "lno"],
            *[("use", 1, ("of", x)) for x in "oln"],
            *[("import", 0, x) for x in "lno"],
            *[("import", 2, x) for x in "olm"],
        ]
        self.check(wanted, one)
        self.check([row for row in wanted if row[-1][-1] in ("l", "m")], one, libraries=["m", "l"])

    def test_members_spreads_and_elders(self):
        uses = [("member", "k", "x"), ("member", "h", "y")]
        one = view(uses=uses, imports=[("all", "n"), ("whole", "l")], classes=[("h", "k", [("y", 11, False)])])
        wanted = [
            ("use", 0, ("member", 0)),
            ("use", 0, ("spread", "n", 0)),
            ("use", 0, ("spread", "n", 1)),
            ("use", 1, ("member", 1)),
            ("use", 1, ("member", 2)),
            ("use", 1, ("spread", "n", 1)),
            ("use", 1, ("spread", "n", 2)),
        ]
        self.check(wanted, one)
        self.check([wanted[0], wanted[3]], one, libraries=["l", "m"], classes=["k"])
        self.check([row for row in wanted if row[2][0] == "spread"], one, classes=())
        parts = {"classes": [("h", "k", [])], "scopes": [("body", None, "h")], "own": [("c", 11)], "uses": [("name", 0, "c")]}
        elders = [("use", 0, ("elder", 0, d)) for d in (1, 2)]
        alls = [("use", 0, ("all", 0, x)) for x in "lmno"]
        for bodies in ("ahead", "behind"):
            self.check(elders + alls, view(Book(bodies=bodies), **parts))
        self.check(alls, view(Book(bodies="never"), **parts))

    def test_once_and_risks(self):
        wanted = [
            *[("once", "a", x) for x in "lno"],
            *[("once", "b", x) for x in "lmo"],
            *[("risk", *pair) for pair in combinations("lmno", 2)],
        ]
        self.check(wanted, once())
        self.check(wanted, once("both"))
        self.check(wanted, once(imports=[("all", "o"), ("all", "n")]))
        some = [("once", "a", "n"), ("once", "b", "m"), ("risk", "m", "n")]
        self.check(some, once(imports=[("all", "n"), ("all", "m")]), libraries=["n", "m", "n"])
        self.check([row for row in wanted if "m" not in row and "o" not in row], once(), libraries=["n", "l"])
        self.check([("once", "a", "l"), ("once", "b", "l")], once(), libraries=["l"])
        self.check([], once(imports=[("named", "l", "a", "a"), ("whole", "l")]), libraries=["m"])
        self.check([], once(imports=[("all", "n")]))
        for alls in ("use", "first", "last"):
            self.check([], view(Book(alls=alls)))

    def test_libraries_that_no_import_of_all_names_reaches(self):
        world = World([("l", [("a", 1)], [], []), ("m", [("b", 2)], [], []), ("n", [], [], [])])
        imports = [("whole", "n"), ("all", "m"), ("named", "n", "b", "b"), ("all", "l")]
        one = View(Caller(world, imports[:2] + imports[3:]), Book(alls="once"))
        self.check([("once", "a", "m"), ("once", "b", "l"), ("risk", "l", "m")], one)

    def test_marks(self):
        parts = {
            "classes": [
                ("h", "k", [("y", 11, False), ("x", 12, True), ("b", 13, False)]),
                ("i", "h", [("y", 14, True), ("c", 15, False)]),
                ("j", None, [("d", 16, False)]),
            ]
        }
        wanted = [
            *[("mark", "h", "y", x) for x in "kg"],
            *[("mark", "h", "b", x) for x in "kg"],
            *[("mark", "i", "c", x) for x in "kg"],
        ]
        one = view(Book(marks=True), **parts)
        self.check(wanted, one)
        self.check(wanted, one, libraries=[])
        self.check(wanted[1::2], one, classes=["g", "g"])
        self.check([], one, classes=[])
        self.check([], view(Book(marks=False), **parts))

    def test_all_kinds_in_the_told_order(self):
        imports, classes = [("named", "m", "a", "z"), ("all", "l")], [("h", "g", [("y", 11, False)])]
        one = view(Book(alls="once", marks=True), imports, classes=classes, uses=[("name", None, "z")])
        wanted = [
            *[("use", 0, ("named", 0, x)) for x in "oln"],
            *[("use", 0, ("all", 1, x)) for x in "lmno"],
            *[("import", 0, x) for x in "oln"],
            *[("once", "a", x) for x in "lno"],
            *[("once", "b", x) for x in "lmo"],
            *[("risk", *pair) for pair in combinations("lmno", 2)],
            ("mark", "h", "y", "g"),
        ]
        self.check(wanted, one)

    def test_views_at_random(self):
        draw, met_words = random.Random(76), {}
        for one in right_views(500, 77):
            for grown in [{}, draw_growing(draw, one.caller.world)]:
                wanted = demanded(one, **grown)
                self.check(wanted, one, **grown)
                kinds = {row[0] for row in wanted}
                parts = [(part, one.book[part]) for part in ("given", "alls", "bodies", "spreads", "near", "marks")]
                for key in [(kind, *part) for kind in kinds for part in parts]:
                    met_words[key] = met_words.get(key, 0) + 1
        # Each kind is met under each word; but once and risk under one word of alls, mark under one truth of marks.
        for kind, many in [("use", 16), ("import", 16), ("once", 13), ("risk", 13), ("mark", 15)]:
            self.assertEqual(len([key for key in met_words if key[0] == kind]), many, kind)


class PaperTest(unittest.TestCase):
    def test_touched(self):
        one = view(uses=[("name", None, "a")])
        expect(self, ("touched", "changes", (("name", "l", "a"),)), paper(one))
        expect(self, ("touched", "breaks", (("name", "n", "a"),)), paper(one, libraries=["n", "n", "o"]))
        tie = view(Book(spreads="tie"), uses=[("member", "k", "x")])
        expect(self, ("touched", "changes", (("member", "k", "x"),)), paper(tie))
        expect(self, ("touched", "breaks", (("spread", "n", "g", "x"),)), paper(tie, libraries=["n"], classes=["g"]))

    def test_risks(self):
        for parts, name in [({}, "a"), ({"own": [("a", 11), ("c", 12)]}, "b")]:
            one = View(Caller(bare(), [("all", "l")], **parts), Book(alls="once"))
            places = (("name", "m", name), ("name", "n", name))
            expect(self, ("touched", "breaks", places), paper(one))
            expect(self, ("touched", "breaks", places), paper(one, libraries=("n", "m")))
            places = (("name", "n", name), ("name", "o", name))
            expect(self, ("touched", "breaks", places), paper(one, libraries=("o", "n")))
            expect(self, "safe", paper(one, libraries=("l", "m"))[0])

    def test_safe(self):
        expect(self, ("safe", ()), paper(view()))
        expect(self, ("safe", ()), paper(view(uses=[("name", None, "a")]), libraries=[], classes=[]))
        one = view(imports=[("all", "m")], uses=[("name", None, "a")])
        rows = tuple([("use", 0, ("all", 0, x), ("all", 0, "m"), ()) for x in "oln"])
        expect(self, ("safe", rows), paper(one))
        row = ("use", 0, ("all", 0, "o"), ("own",), ())
        expect(self, ("safe", (row,)), paper(view(own=[("q", 11)], uses=[("name", None, "q")]), libraries=["o"]))

    def test_views_at_random(self):
        draw, told = random.Random(78), {}
        rows = right_views(350, 79)
        for given in ("own", "both"):
            rows += right_views(60, 80, book=Book(alls="once", given=given))
        for one in rows:
            for grown in [{}, draw_growing(draw, one.caller.world)]:
                found = paper(one, **grown)
                self.check(one, grown, found)
                told[found[0], len(found[-1]) > 0] = told.get((found[0], len(found[-1]) > 0), 0) + 1
                for row in found[1] if found[0] == "safe" else ():
                    told[row[0]] = told.get(row[0], 0) + 1
        for kind in ("use", "import", "once", "risk"):
            self.assertGreater(told[kind], 10)

    def check(self, one, grown, found):
        wanted = demanded(one, **grown)
        self.assertIs(type(found), tuple)
        expect(self, is_safe(one, **grown), found[0] == "safe")
        if found[0] == "safe":
            self.assertEqual(len(found), 2)
            self.assertIs(type(found[1]), tuple)
            self.assertEqual(len(found[1]), len(wanted))
            for demand, row in zip(wanted, found[1]):
                self.assertTrue(met(one, demand, row), (demand, row))
            return
        touched = touching(one, **grown)
        if touched:
            expect(self, ("touched", touched[0][1], (touched[0][0],)), found)
        else:
            name = fresh_name(one.caller)
            expect(self, ("touched", "breaks", tuple(("name", x, name) for x in risks(one, **grown)[0])), found)
        # For a caller that is not safe, some demand has no row at all.
        self.assertIn([], [meeting_rows(one, demand) for demand in wanted])


class ErrorsTest(unittest.TestCase):
    def test_unknown_names_ahead_of_not_right(self):
        for one in [wrong(), view(uses=[("name", None, "a")])]:
            for call in CALLS:
                for value in [*ANY, "k"]:
                    for rows in [[value], ["l", value], ["l", "l", value, None], (value, "zz")]:
                        expect_error(self, "UnknownName", value, call, one, libraries=rows)
                        expect_error(self, "UnknownName", value, call, one, classes=[None], libraries=rows)
                for value in [*ANY, "l"]:
                    for rows in [[value], ["k", value], ["g", "g", value, None], (value, "zz")]:
                        expect_error(self, "UnknownName", value, call, one, classes=rows)
                        expect_error(self, "UnknownName", value, call, one, libraries=["l"], classes=rows)

    def test_not_right(self):
        for call in (demands, paper):
            for grown in [{}, {"libraries": []}, {"libraries": [], "classes": ()}, {"classes": ["k", "k"]}]:
                expect_error(self, "NotRight", [("mark", "h", "x"), ("use", 0)], call, wrong(), **grown)

    def test_by_name_alone(self):
        for call in CALLS:
            with self.assertRaises(TypeError):
                call(view(), ["l"])


class NothingChangesTest(unittest.TestCase):
    def test_views_and_lists(self):
        one = once(uses=[("name", None, "a")])
        libraries, classes = ["n", "m", "n"], ["k"]
        first = demands(one, libraries=libraries, classes=classes)
        demands(one, libraries=libraries, classes=classes).clear()
        for call in CALLS:
            expect(self, call(one, libraries=libraries, classes=classes), call(classes=classes, libraries=libraries, view=one))
        expect(self, first, demands(one, libraries=libraries, classes=classes))
        expect(self, [["n", "m", "n"], ["k"]], [libraries, classes])
        self.assertTrue(one == once(uses=[("name", None, "a")]))


if __name__ == "__main__":
    unittest.main()
