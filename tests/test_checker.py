import random
import unittest
from itertools import permutations, product

from addednames.additions import Addition
from addednames.books import Book
from addednames.callers import Caller
from addednames.checker import accepts, is_fence, meets
from addednames.effects import effect, new_thing, places_for
from addednames.papers import demands, is_safe, paper
from addednames.problems import is_right
from addednames.touching import fresh_name
from addednames.views import View
from addednames.worlds import World
from chance import Things, draw_growing, draw_world, right_views, views
from papers_model import all_tuples, demanded, fenced, meeting_rows, met
from support import STRANGE, Greedy, Touchy, expect, expect_error, same

ANY = (*STRANGE, Greedy(), Touchy(), "z", "a", 1, ["l"], ("l",))


def small():
    """l gives on m and n, m on o, which gives on l."""
    return World(
        [("l", [], ["m", "n"], []), ("m", [("a", 1)], ["o"], []), ("n", [("b", 2)], [], []), ("o", [], ["l"], [])],
        [("g", None, [("x", 4)]), ("k", "g", [])],
    )


def bare():
    """l and p give on m and n, m on o; nothing has a name."""
    rows = [("l", ["m", "n"]), ("m", ["o"]), ("n", []), ("o", []), ("p", ["n", "m"])]
    return World([(name, [], gives, []) for name, gives in rows])


def view(book=None, imports=(("all", "l"),), **parts):
    return View(Caller(small(), imports, **parts), Book() if book is None else book)


def wrong():
    return view(uses=[("name", None, "z")])


class FenceTest(unittest.TestCase):
    def check(self, wanted, library, stop, other, value):
        expect(self, wanted, is_fence(small(), library, stop, other, value))

    def test_fences(self):
        self.check(True, "l", "m", "o", ("l", "n"))
        self.check(True, "l", "m", "o", ("n", "l"))
        self.check(True, "l", "m", "o", ("l", "n", "l", "l"))
        self.check(True, "o", "l", "m", ("o",))
        self.check(True, "n", "m", "o", ("n",))
        self.check(True, "m", "l", "n", ("m", "o"))
        self.check(True, "n", "l", "m", ("n",))

    def test_the_stop_itself(self):
        for other in "lno":
            self.check(True, "m", "m", other, ())
            self.check(False, "m", "m", other, ("m",))
            self.check(False, "m", "m", other, ("n",))
            self.check(False, "m", "m", other, [])
        self.check(False, "m", "l", "o", ())
        self.check(False, "n", "m", "o", ())

    def test_what_just_misses(self):
        self.check(False, "l", "m", "o", ("l",))
        self.check(False, "l", "m", "o", ("n",))
        self.check(False, "l", "m", "o", ("l", "n", "m"))
        self.check(False, "l", "m", "o", ("l", "n", "o"))
        self.check(False, "l", "m", "n", ("l", "n"))
        self.check(False, "l", "o", "n", ("l", "m"))
        self.check(False, "o", "l", "o", ("o",))
        self.check(False, "l", "m", "o", ("l", "n", "z"))
        self.check(False, "l", "m", "o", ("l", "n", "g"))
        self.check(False, "l", "m", "o", ["l", "n"])
        self.check(False, "l", "m", "o", "ln")
        self.check(False, "l", "m", "o", (("l",), "n"))

    def test_equal_stop_and_other(self):
        for value in [(), ("l",), ("l", "n"), ("m",), *ANY]:
            self.check(False, "l", "m", "m", value)
            self.check(False, "m", "m", "m", value)

    def test_any_value(self):
        for value in ANY:
            for library, stop, other in [("l", "m", "o"), ("m", "l", "n"), ("n", "l", "o"), ("o", "o", "n")]:
                self.check(library == stop and type(value) is tuple and len(value) == 0, library, stop, other, value)
            self.check(False, "l", "m", "o", ("l", "n", value))
            self.check(False, "l", "m", "o", (value, "l", "n"))
            self.check(False, "m", "m", "o", (value,))

    def test_unknown_names_from_the_left(self):
        for value in [*ANY, "g"]:
            for rest in [("l", "m"), (value, "m"), ("l", value), (value, None)]:
                expect_error(self, "UnknownName", value, is_fence, small(), value, *rest, ("l",))
            for rest in ["m", value, None]:
                expect_error(self, "UnknownName", value, is_fence, small(), "l", value, rest, None)
            expect_error(self, "UnknownName", value, is_fence, small(), "l", "m", value, ("l", "n"))
            expect_error(self, "UnknownName", value, is_fence, small(), "l", "l", value, ())

    def test_all_of_some_worlds(self):
        draw, told = random.Random(81), {True: 0, False: 0}
        for _ in range(40):
            world = draw_world(draw, Things(draw), libraries="lmno", classes="")
            names = world.library_names()
            rows = [tuple(draw.sample(row, len(row))) for row in all_tuples(world)]
            for library, stop, other in product(names, repeat=3):
                for row in rows:
                    wanted = fenced(world, library, stop, other, row)
                    expect(self, wanted, is_fence(world, library, stop, other, row))
                    told[wanted] += 1
        self.assertGreater(min(told.values()), 500)


class MeetsTest(unittest.TestCase):
    def check(self, one, demand, right, misses):
        """The first rows meet the demand; no other ones do, and none in which a part is of another kind."""
        self.assertIn(demand, demands(one))
        for row in right:
            expect(self, True, meets(one, demand, row))
            self.check_kinds(one, demand, row)
        for row in [*misses, (), demand, *ANY]:
            expect(self, False, meets(one, demand, row))

    def check_kinds(self, one, demand, row):
        misses = [list(row), row[:4], (*row, ()), row[::-1], row[1:], (row,), (*row[:4], list(row[4]))]
        misses += [(*row[:at], value, *row[at + 1:]) for at in range(5) for value in ANY if not same(value, row[at])]
        if isinstance(row[1], int):
            misses += [(row[0], value, *row[2:]) for value in (bool(row[1]), row[1] + 1, str(row[1]))]
        if isinstance(row[2], tuple):
            misses.append((*row[:2], list(row[2]), *row[3:]))
        if isinstance(row[3], tuple):
            misses.append((*row[:3], list(row[3]), row[4]))
        if row[4] and isinstance(row[4][0], tuple):
            misses.append((*row[:4], tuple(list(part) for part in row[4])))
        for miss in misses:
            expect(self, False, meets(one, demand, miss))

    def test_uses(self):
        imports = [("all", "l"), ("all", "m"), ("named", "l", "b", "a")]
        one = view(Book(order="named all own"), imports, uses=[("name", None, "q"), ("name", None, "a")], own=[("q", 11)])
        demand = ("use", 1, ("all", 0, "o"))
        right = [(*demand, ("named", 2, "n"), ()), (*demand, ("all", 0, "m"), ("l", "n")), (*demand, ("all", 0, "m"), ("n", "l"))]
        misses = [
            (*demand, ("named", 2, "n"), ("l", "n")),
            (*demand, ("named", 2, "l"), ()),
            (*demand, ("all", 0, "m"), ()),
            (*demand, ("all", 0, "m"), ("l",)),
            (*demand, ("all", 0, "m"), ("l", "n", "o")),
            (*demand, ("all", 1, "m"), ()),
            (*demand, ("all", 1, "m"), ("l", "n")),
            (*demand, ("all", 0, "o"), ("l", "n")),
            (*demand, ("own",), ()),
            ("use", 1, ("all", 1, "o"), ("named", 2, "n"), ()),
            ("use", 0, ("all", 0, "o"), ("named", 2, "n"), ()),
        ]
        self.check(one, demand, right, misses)
        self.check(one, ("use", 1, ("all", 1, "o")), [("use", 1, ("all", 1, "o"), ("all", 1, "m"), ())], [])
        self.check(one, ("use", 1, ("all", 0, "l")), [("use", 1, ("all", 0, "l"), ("named", 2, "n"), ())], [
            ("use", 1, ("all", 0, "l"), ("all", 0, "m"), ("l", "n")),
            ("use", 1, ("all", 0, "l"), ("all", 0, "m"), ()),
        ])
        self.check(one, ("use", 1, ("named", 2, "m")), [], [
            ("use", 1, ("named", 2, "m"), ("named", 2, "n"), ("l", "m", "o")),
            ("use", 1, ("named", 2, "m"), ("all", 1, "m"), ()),
        ])

    def test_uses_of_libraries_members_and_scopes(self):
        one = view(imports=[("whole", "l")], uses=[("of", "l", "a"), ("member", "k", "x")])
        demand = ("use", 0, ("of", "o"))
        self.check(one, demand, [(*demand, ("of", "m"), ("l", "n"))], [
            (*demand, ("of", "m"), ()),
            (*demand, ("of", "o"), ("l", "n")),
            (*demand, ("of", "l"), ()),
            (*demand, ("all", 0, "m"), ("l", "n")),
        ])
        both = View(one.caller, Book(given="both"))
        self.check(both, demand, [], [(*demand, ("of", "m"), ("l", "n")), (*demand, ("of", "m"), ())])
        self.check(one, ("use", 1, ("member", 0)), [], [("use", 1, ("member", 0), ("member", 1), ())])
        one = view(uses=[("member", "k", "x")])
        demand = ("use", 0, ("spread", "n", 0))
        self.check(one, demand, [(*demand, ("member", 1), ())], [(*demand, ("member", 1), ("n",)), (*demand, ("member", 0), ())])
        self.check(View(one.caller, Book(spreads="tie")), demand, [], [(*demand, ("member", 1), ())])
        one = view(scopes=[("block", None, [("a", 11)])], uses=[("name", 0, "a")])
        demand = ("use", 0, ("all", 0, "l"))
        self.check(one, demand, [(*demand, ("scope", 0), ())], [
            (*demand, ("scope", 0), ("l",)),
            (*demand, ("scope", 1), ()),
            (*demand, ("own",), ()),
            (*demand, ("all", 0, "m"), ("l", "n")),
        ])

    def test_imports(self):
        one = view(imports=[("all", "n"), ("named", "l", "a", "q")])
        behind = ("import", 1, "o", "behind", ("l", "n"))
        ahead = ("import", 1, "l", "ahead", ())
        self.check(one, behind[:3], [behind, (*behind[:4], ("n", "l", "n"))], [
            (*behind[:3], "ahead", ("l", "n")),
            (*behind[:3], "beside", ("l", "n")),
            (*behind[:3], "m", ("l", "n")),
            (*behind[:3], "behind", (("l", "n"),)),
            (*behind[:3], "behind", ("l",)),
            (*behind[:3], "behind", ()),
            ("import", 1, "l", "behind", ("l", "n")),
            ("import", 0, "o", "behind", ("l", "n")),
            ("once", 1, "o", "behind", ("l", "n")),
        ])
        self.check(one, ahead[:3], [ahead], [
            (*ahead[:3], "behind", ()),
            (*ahead[:3], "ahead", ("l",)),
            (*ahead[:3], "ahead", ((),)),
        ])
        self.check(one, ("import", 1, "n"), [], [
            ("import", 1, "n", word, row) for word in ("ahead", "behind") for row in all_tuples(small())
        ])
        both = View(one.caller, Book(given="both"))
        self.check(both, behind[:3], [], [behind])
        self.check(both, ahead[:3], [], [ahead])

    def once_view(self, **words):
        rows = [("l", ["m", "n"]), ("m", ["o"]), ("n", []), ("o", []), ("p", ["m"])]
        world = World([(name, [("a", 1)] if name == "m" else [], gives, []) for name, gives in rows])
        return View(Caller(world, [("all", "l"), ("whole", "n"), ("all", "p")]), Book(alls="once", **words))

    def test_once(self):
        one = self.once_view()
        row = ("once", "a", "o", "behind", (("l", "n"), ("p",)))
        misses = [
            (*row[:3], "ahead", row[4]),
            (*row[:3], ("l", "n"), row[4]),
            (*row[:4], row[4][::-1]),
            (*row[:4], row[4][:1]),
            (*row[:4], (*row[4], ("p",))),
            (*row[:4], (("l", "n"), ())),
            (*row[:4], (("l",), ("p",))),
            (*row[:4], (("l", "n"), ("p", "o"))),
            (*row[:4], ("l", "n")),
            (*row[:4], ()),
            ("once", "b", "o", *row[3:]),
            ("risk", "a", "o", *row[3:]),
        ]
        self.check(one, row[:3], [row, (*row[:4], (("n", "l"), ("p", "p")))], misses)
        for library in "lnp":
            pairs = list(product(all_tuples(one.caller.world), repeat=2))
            rows = [("once", "a", library, word, pair) for word in ("ahead", "behind") for pair in pairs]
            self.check(one, ("once", "a", library), [], rows)
        self.check(self.once_view(given="both"), row[:3], [], [row, *misses])

    def test_once_ahead(self):
        world = World([("l", [], ["m"], []), ("m", [], ["o"], []), ("n", [], ["m"], []), ("o", [("a", 1)], [], [])])
        one = View(Caller(world, [("all", "n"), ("all", "l"), ("all", "m")]), Book(alls="once"))
        row = ("once", "a", "m", "ahead", (("n",), ("l",), ()))
        self.check(one, row[:3], [row], [
            (*row[:3], "behind", row[4]),
            (*row[:4], (("l",), ("n",), ())),
            (*row[:4], (("n",), ("l",), ("m",))),
            (*row[:4], (("n",), ("l",))),
        ])
        # From an import that reaches neither of two libraries, there is a fence, too.
        world = World([("l", [], ["m"], []), ("m", [], ["o"], []), ("n", [], [], []), ("o", [("a", 1)], [], [])])
        one = View(Caller(world, [("all", "n"), ("all", "l")]), Book(alls="once"))
        row = ("once", "a", "m", "ahead", (("n",), ("l",)))
        self.check(one, row[:3], [row], [(*row[:3], "behind", row[4]), (*row[:4], ((), ("l",)))])

    def test_risks(self):
        one = View(Caller(bare(), [("all", "p"), ("all", "l")]), Book(alls="once"))
        row = ("risk", "m", "o", "m", (("p", "n"), ("l", "n")))
        misses = [
            (*row[:3], "o", row[4]),
            (*row[:3], "n", row[4]),
            (*row[:3], "behind", row[4]),
            (*row[:4], row[4][::-1]),
            (*row[:4], row[4][:1]),
            (*row[:4], (*row[4], ("l", "n"))),
            (*row[:4], (("p",), ("l", "n"))),
            (*row[:4], (("p", "n", "m"), ("l", "n"))),
            (*row[:4], (("p", "n"), ())),
            ("risk", "o", "m", *row[3:]),
        ]
        self.check(one, row[:3], [row, (*row[:4], (("n", "p"), ("l", "n", "l")))], misses)
        every = list(product(all_tuples(bare()), repeat=2))
        self.check(one, ("risk", "m", "n"), [], [("risk", "m", "n", word, pair) for word in "mn" for pair in every])
        self.check(View(one.caller, Book(alls="once", given="both")), row[:3], [], [row])
        # The second library of the pair may be the keeper, too.
        world = World([("l", [], ["m"], []), ("o", [], [], []), ("m", [], ["o"], [])])
        one = View(Caller(world, [("all", "l")]), Book(alls="once"))
        row = ("risk", "o", "m", "m", (("l",),))
        self.check(one, row[:3], [row], [(*row[:3], "o", row[4]), (*row[:3], "o", (("l", "m"),)), (*row[:4], ("l",))])

    def test_marks(self):
        one = view(Book(marks=True), classes=[("h", "k", [("y", 11, False)])])
        demand = ("mark", "h", "y", "k")
        self.check(one, demand, [], [demand, (*demand, ()), (*demand, "ahead", ()), (*demand[:3], "k", ()), (*demand, ("own",), ())])

    def test_views_at_random(self):
        draw, told = random.Random(82), {}
        rows = right_views(400, 83)
        for given in ("own", "both"):
            rows += right_views(120, 84, book=Book(alls="once", given=given))
        for one in rows:
            for demand in demanded(one):
                right = meeting_rows(one, demand)
                for row in right:
                    expect(self, True, meets(one, demand, row))
                    told[demand[0]] = told.get(demand[0], 0) + 1
                for row in self.changed_rows(draw, one, demand, right):
                    expect(self, met(one, demand, row), meets(one, demand, row))
        for kind in ("use", "import", "once", "risk"):
            self.assertGreater(told[kind], 30, kind)
        self.assertNotIn("mark", told)

    def changed_rows(self, draw, one, demand, right):
        """Rows with the right kinds of values in which a part is another one."""
        spots = [spot for index in range(len(one.caller)) for spot in one.spots(index)] if demand[0] == "use" else []
        firsts = [*spots, *demand[1:], "ahead", "behind"] if demand[0] != "use" else spots
        tuples = all_tuples(one.caller.world)
        many = len([row for row in one.caller.imports if row[0] == "all"])
        rows = right[:3] or [(*demand, draw.choice(firsts), ())]
        found = []
        for row in rows:
            alone = demand[0] in ("use", "import")
            fences = draw.choice(tuples) if alone else tuple(draw.choice(tuples) for _ in range(many))
            found.append((*row[:4], fences))
            found.append((*row[:3], draw.choice(firsts), draw.choice((fences, row[4]))))
        return found if demand[0] != "mark" else []


class AcceptsTest(unittest.TestCase):
    def check(self, wanted, one, value, **grown):
        expect(self, wanted, accepts(one, value, **grown))

    def test_safe(self):
        one = view(uses=[("name", None, "a")])
        value = ("safe", (("use", 0, ("all", 0, "o"), ("all", 0, "m"), ("l", "n")),))
        self.check(True, one, value, libraries=["o"])
        self.check(True, one, value, libraries=("o", "m", "o"), classes=[])
        self.check(False, one, value)
        self.check(False, one, value, libraries=["o", "n"])
        self.check(False, one, value, libraries=[])
        self.check(True, one, ("safe", ()), libraries=[])
        self.check(False, one, ("safe", ()), libraries=["o"])
        for miss in [
            ("safe", value[1] * 2),
            ("safe", list(value[1])),
            ["safe", value[1]],
            ("safe", value[1][0]),
            ("safe", value[1], ()),
            ("touched", value[1]),
            ("safe",),
            value[1],
            ("Safe", value[1]),
        ]:
            self.check(False, one, miss, libraries=["o"])

    def test_touched(self):
        one = view(uses=[("name", None, "a")])
        first, second, third = ("name", "l", "a"), ("name", "n", "a"), ("name", "o", "a")
        self.check(True, one, ("touched", "changes", (first,)))
        self.check(True, one, ("touched", "breaks", (second,)))
        self.check(True, one, ("touched", "changes", (first, second)))
        self.check(True, one, ("touched", "changes", (second, first)))
        self.check(True, one, ("touched", "breaks", (second, third)))
        self.check(True, one, ("touched", "breaks", (("member", "k", "z"), second)))
        self.check(True, one, ("touched", "changes", (first, ("spread", "o", "k", "a"))), libraries=["l", "o"], classes=[])
        for miss in [
            ("touched", "breaks", (first,)),
            ("touched", "stays", (third,)),
            ("touched", "changes", (third,)),
            ("touched", "breaks", (third,)),
            ("touched", "breaks", (first, second)),
            ("touched", "changes", (first, first)),
            ("touched", "changes", (first, third, second)),
            ("touched", "changes", ()),
            ("touched", "changes", [first]),
            ("touched", "changes", first),
            ("touched", "changes", (list(first),)),
            ["touched", "changes", (first,)],
            ("touched", "changes", (first,), ()),
            ("touched", (first,)),
            ("touches", "changes", (first,)),
            ("safe", "changes", (first,)),
            ("touched", "changes", (first, ("name", "m", "a"))),
            ("touched", "changes", (("name", "m", "a"),)),
            ("touched", "changes", (first, ("name", "z", "a"))),
            ("touched", "changes", (first, ("member", "l", "a"))),
            ("touched", "changes", (first, ("spread", "l", "l", "a"))),
            ("touched", "changes", (first, ("spread", "l", "z", "a"))),
            ("touched", "changes", (first, ("spread", "k", "k", "a"))),
            ("touched", "changes", (first, ("name", "l", "abcdefghi"))),
            ("touched", "changes", (first, ("name", "l"))),
        ]:
            self.check(False, one, miss)

    def test_touched_at_places_that_do_not_grow(self):
        one = view(uses=[("name", None, "a"), ("member", "k", "x")])
        paper_of_name = ("touched", "changes", (("name", "l", "a"),))
        self.check(True, one, paper_of_name, libraries=["l"], classes=[])
        self.check(False, one, paper_of_name, libraries=["m", "n", "o"])
        self.check(False, one, ("touched", "changes", (("name", "l", "a"), ("name", "n", "z"))), libraries=["l"])
        paper_of_member = ("touched", "changes", (("member", "k", "x"),))
        self.check(True, one, paper_of_member, libraries=[], classes=["k"])
        self.check(False, one, paper_of_member, libraries=[], classes=["g"])
        tie = View(one.caller, Book(spreads="tie"))
        paper_of_spread = ("touched", "breaks", (("spread", "o", "k", "x"),))
        self.check(True, tie, paper_of_spread, libraries=["o"], classes=[])
        self.check(False, tie, paper_of_spread, libraries=["l"])

    def test_two_that_touch_together(self):
        once = View(Caller(bare(), [("all", "l")]), Book(alls="once"))
        for name in ("a", fresh_name(once.caller), "z"):
            self.check(True, once, ("touched", "breaks", (("name", "m", name), ("name", "n", name))))
            self.check(True, once, ("touched", "breaks", (("name", "n", name), ("name", "m", name))))
            self.check(False, once, ("touched", "breaks", (("name", "m", name), ("name", "o", name))))
            self.check(False, once, ("touched", "breaks", (("name", "m", name), ("name", "n", name + "a"))))
            self.check(False, once, ("touched", "breaks", (("name", "m", name),)))

    def test_any_value(self):
        one = view(uses=[("name", None, "a")])
        for grown in [{}, {"libraries": ["o"]}, {"libraries": [], "classes": []}]:
            for value in ANY:
                for row in [value, ("safe", value), ("safe", (value,)), ("touched", value, value), (value, value)]:
                    empty = grown.get("libraries") == [] and type(value) is tuple and row == ("safe", ())
                    self.check(empty, one, row, **grown)
                self.check(False, one, ("touched", "changes", value), **grown)
                self.check(False, one, ("touched", "changes", (value,)), **grown)
                self.check(False, one, ("touched", "changes", (("name", "l", "a"), value)), **grown)
                self.check(False, one, ("touched", value, (("name", "l", "a"),)), **grown)
                self.check(False, one, (value, "changes", (("name", "l", "a"),)), **grown)
                effects = not grown and same(value, "a")
                self.check(effects, one, ("touched", "changes", (("name", "l", value),)), **grown)

    def test_a_caller_that_is_not_right(self):
        for value in [("safe", ()), ("touched", "breaks", (("name", "l", "z"),)), *ANY]:
            for grown in [{}, {"libraries": []}, {"libraries": [], "classes": []}]:
                self.check(False, wrong(), value, **grown)
        for one in views(150, 85):
            if not is_right(one):
                self.check(False, one, ("safe", ()), libraries=[], classes=[])

    def test_unknown_names(self):
        for one in [wrong(), view(uses=[("name", None, "a")])]:
            for paper_of_one in [("safe", ()), None]:
                for value in [*ANY, "k"]:
                    for rows in [[value], ["l", value, None], (value, "zz")]:
                        expect_error(self, "UnknownName", value, accepts, one, paper_of_one, libraries=rows)
                        expect_error(self, "UnknownName", value, accepts, one, paper_of_one, classes=[None], libraries=rows)
                for value in [*ANY, "l"]:
                    for rows in [[value], ["k", value, None], (value, "zz")]:
                        expect_error(self, "UnknownName", value, accepts, one, paper_of_one, libraries=["l"], classes=rows)

    def test_the_papers_of_the_program(self):
        """Each right caller has a paper that is accepted, also with the rows of another hand; none that is changed is."""
        draw, told = random.Random(86), {"safe": 0, "touched": 0}
        rows = right_views(400, 87)
        for given in ("own", "both"):
            rows += right_views(60, 88, book=Book(alls="once", given=given))
        for one in rows:
            grown = draw.choice(({}, draw_growing(draw, one.caller.world)))
            found = paper(one, **grown)
            self.check(True, one, found, **grown)
            expect(self, found[0] == "safe", is_safe(one, **grown))
            told[found[0]] += 1
            if found[0] == "safe":
                self.check_safe(draw, one, grown, found[1])
            else:
                self.check_touched(one, grown, found)
        self.assertGreater(min(told.values()), 100)

    def check_safe(self, draw, one, grown, rows):
        other = tuple(draw.choice(meeting_rows(one, demand)) for demand in demanded(one, **grown))
        self.check(True, one, ("safe", other), **grown)
        self.check(False, one, ("safe", list(rows)), **grown)
        self.check(False, one, ("safe", (*rows, rows[0] if rows else ())), **grown)
        for at in range(len(rows)):
            self.check(False, one, ("safe", rows[:at] + rows[at + 1:]), **grown)
            self.check(False, one, ("safe", rows[:at] + rows[at:at + 1] + rows[at:]), **grown)
            self.check(False, one, ("safe", (*rows[:at], None, *rows[at + 1:])), **grown)
            for front in range(at):
                moved = list(rows)
                moved[front], moved[at] = moved[at], moved[front]
                self.check(False, one, ("safe", tuple(moved)), **grown)

    def check_touched(self, one, grown, found):
        _, word, places = found
        self.check(False, one, ("touched", "changes" if word == "breaks" else "breaks", places), **grown)
        self.check(False, one, ("touched", "stays", places), **grown)
        self.check(False, one, ("touched", word, places * 2), **grown)
        self.check(False, one, ("touched", word, places[0]), **grown)
        self.check(False, one, ("touched", word, ()), **grown)
        self.check(False, one, ("safe", places), **grown)
        # No paper can say that the caller is safe: some demand has no row.
        self.assertIn([], [meeting_rows(one, demand) for demand in demanded(one, **grown)])

    def test_all_places_of_some_callers(self):
        draw = random.Random(89)
        for one in right_views(60, 90, libraries="lm", classes="g"):
            thing = new_thing(one.caller)
            places = list(places_for(one.caller.world, ["a", "b"]))
            pairs = list(permutations(places, 2))
            for pair in [*[(place,) for place in places], *draw.sample(pairs, min(len(pairs), 10))]:
                word = effect(one, *[Addition(place, thing if at == 0 else 5000) for at, place in enumerate(pair)])
                for told in ("changes", "breaks", "stays"):
                    self.check(told == word != "stays", one, ("touched", told, pair))


class ExampleTest(unittest.TestCase):
    def test_the_example_of_the_document(self):
        world = World([("l", [], ["m"], []), ("m", [("a", 1)], ["o"], []), ("o", [], ["l"], [])])
        one = View(Caller(world, [("all", "l")], uses=[("name", None, "a")]), Book())
        wanted = [[("use", 0, ("all", 0, "o"))], True]
        expect(self, wanted, [demands(one, libraries=["o"]), is_fence(world, "l", "m", "o", ("l",))])
        value = ("safe", (("use", 0, ("all", 0, "o"), ("all", 0, "m"), ("l",)),))
        expect(self, True, accepts(one, value, libraries=["o"]))
        expect(self, ("touched", "changes", (("name", "l", "a"),)), paper(one))


if __name__ == "__main__":
    unittest.main()
