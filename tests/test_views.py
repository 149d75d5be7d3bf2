import random
import unittest
from itertools import product

import model
from addednames.additions import Addition
from addednames.books import ORDERS, Book
from addednames.callers import Caller
from addednames.views import View
from addednames.worlds import World
from chance import draw_book, views
from support import STRANGE, Greedy, Touchy, expect, expect_error, same

ANY = (*STRANGE, Greedy(), Touchy(), "own", ["own"], 5, (5,), ("own", 0), ((),), (None,), (("own",),))


def ring():
    """l, m and n in a ring, o gives on l, p stands alone; classes g, k and j below one another."""
    return World(
        [
            ("o", [("a", 1)], ["l"], [("g", "a", 2)]),
            ("l", [("b", 3)], ["m"], [("k", "b", 4), ("j", "a", 5)]),
            ("n", [("a", 6)], ["l"], [("k", "a", 7)]),
            ("m", [], ["n"], []),
            ("p", [("b", 8), ("a", 9)], [], [("k", "a", 10)]),
        ],
        [("g", None, [("a", 11)]), ("k", "g", [("b", 12)]), ("j", "k", [])],
    )


IMPORTS = [("all", "l"), ("named", "n", "a", "a"), ("whole", "o"), ("named", "p", "b", "a"), ("all", "p"), ("all", "m")]
CLASSES = [("h", "k", [("a", 21, True)]), ("i", "h", [("b", 22, True)]), ("q", None, [])]
SCOPES = [("block", None, [("a", 23)]), ("body", 0, "i"), ("block", 1, [("b", 24)]), ("body", 2, "q")]
USES = [
    ("name", 3, "a"),
    ("name", None, "b"),
    ("member", "i", "a"),
    ("member", "k", "b"),
    ("of", "o", "a"),
    ("name", 1, "c"),
    ("member", "q", "a"),
]


def full(book=None):
    caller = Caller(ring(), IMPORTS, own=[("a", 25)], classes=CLASSES, scopes=SCOPES, uses=USES)
    return View(caller, Book() if book is None else book)


TOP = [
    ("own",),
    ("named", 1, "n"),
    ("named", 1, "l"),
    ("named", 1, "m"),
    ("named", 3, "p"),
    ("all", 0, "l"),
    ("all", 0, "m"),
    ("all", 0, "n"),
    ("all", 4, "p"),
    ("all", 5, "m"),
    ("all", 5, "n"),
    ("all", 5, "l"),
]
BODIES = [("scope", 0), ("scope", 1), ("scope", 2), ("elder", 2, 1), ("elder", 2, 2), ("elder", 2, 3), ("scope", 3)]
UNNAMED = [spot for spot in TOP if spot[0] != "named"]


class ViewTest(unittest.TestCase):
    def test_properties(self):
        caller, book = Caller(ring(), IMPORTS), Book.late()
        for view in [View(caller, book), View(book=book, caller=caller)]:
            self.assertTrue(view.caller == caller)
            self.assertTrue(view.book == book)

    def test_equal(self):
        self.assertIs(full() == full(), True)
        self.assertIs(full() != full(), False)
        self.assertIs(full() == full(Book(near=False)), False)
        self.assertIs(full() == View(full().caller.with_uses([]), Book()), False)
        for value in [*ANY, full().caller, Book()]:
            self.assertIs(full() == value, False)
            self.assertIs(full() != value, True)


class SpotsTest(unittest.TestCase):
    def test_names(self):
        for bodies in ("ahead", "behind"):
            view = full(Book(bodies=bodies))
            expect(self, [*BODIES, *TOP], view.spots(0))
            expect(self, UNNAMED, view.spots(1))
            wanted = [("scope", 0), ("elder", 0, 1), ("elder", 0, 2), ("elder", 0, 3), ("scope", 1), *UNNAMED]
            expect(self, wanted, view.spots(index=5))

    def test_no_elders(self):
        view = full(Book(bodies="never"))
        expect(self, [("scope", 0), ("scope", 1), ("scope", 2), ("scope", 3), *TOP], view.spots(0))
        expect(self, [("scope", 0), ("scope", 1), *UNNAMED], view.spots(5))

    def test_members(self):
        spreads = [("l", 2), ("l", 3), ("n", 2), ("n", 3), ("m", 2), ("m", 3), ("p", 2), ("p", 3)]
        members = [("member", 0), ("member", 1), ("member", 2), ("member", 3)]
        expect(self, [*members, *[("spread", *row) for row in spreads]], full().spots(2))
        wanted = [*members[:2], *[("spread", library, d - 2) for library, d in spreads]]
        expect(self, wanted, full().spots(3))
        expect(self, [("member", 0)], full().spots(6))

    def test_no_spreads_without_an_import_of_all_names(self):
        imports = [("whole", "l"), ("named", "l", "a", "a")]
        view = View(Caller(ring(), imports, uses=[("member", "j", "a")]), Book())
        expect(self, [("member", 0), ("member", 1), ("member", 2)], view.spots(0))

    def test_of_a_library(self):
        expect(self, [("of", "o"), ("of", "l"), ("of", "m"), ("of", "n")], full().spots(4))

    def test_nothing_around(self):
        view = View(Caller(World(), uses=[("name", None, "a")]), Book())
        expect(self, [("own",)], view.spots(0))
        expect(self, ("nothing",), view(0))

    def test_a_new_list(self):
        view = full()
        for index in range(len(USES)):
            spots = view.spots(index)
            view.spots(index).clear()
            expect(self, spots, view.spots(index))


class PlacesTest(unittest.TestCase):
    def check(self, index, rows):
        """Exactly these spots have a place or a thing."""
        view, table = full(), {spot: (place, thing) for spot, place, thing in rows}
        self.assertEqual(list(table), [spot for spot in view.spots(index) if spot in table])
        for spot in view.spots(index):
            place, thing = table.get(spot, (None, None))
            expect(self, place, view.place_of(index, spot))
            expect(self, thing, view.told(spot=spot, index=index))
        expect(self, [(spot, thing) for spot, _, thing in rows if thing is not None], view.tellers(index))

    def test_names(self):
        self.check(0, [
            (("elder", 2, 1), None, 21),
            (("elder", 2, 2), ("member", "k", "a"), None),
            (("elder", 2, 3), ("member", "g", "a"), 11),
            (("scope", 3), None, 23),
            (("own",), None, 25),
            (("named", 1, "n"), ("name", "n", "a"), 6),
            (("named", 1, "l"), ("name", "l", "a"), None),
            (("named", 1, "m"), ("name", "m", "a"), None),
            (("named", 3, "p"), ("name", "p", "b"), 8),
            (("all", 0, "l"), ("name", "l", "a"), None),
            (("all", 0, "m"), ("name", "m", "a"), None),
            (("all", 0, "n"), ("name", "n", "a"), 6),
            (("all", 4, "p"), ("name", "p", "a"), 9),
            (("all", 5, "m"), ("name", "m", "a"), None),
            (("all", 5, "n"), ("name", "n", "a"), 6),
            (("all", 5, "l"), ("name", "l", "a"), None),
        ])

    def test_a_body(self):
        view = View(full().caller.with_uses([("name", 2, "b")]), Book())
        expect(self, [24, 22, 12], [view.told(0, spot) for spot in [("scope", 0), ("scope", 1), ("elder", 1, 2)]])
        expect(self, [None, None, ("member", "k", "b")], [
            view.place_of(0, spot) for spot in [("scope", 1), ("elder", 1, 1), ("elder", 1, 2)]
        ])

    def test_members(self):
        self.check(2, [
            (("member", 1), None, 21),
            (("member", 2), ("member", "k", "a"), None),
            (("member", 3), ("member", "g", "a"), 11),
            (("spread", "l", 2), ("spread", "l", "k", "a"), None),
            (("spread", "l", 3), ("spread", "l", "g", "a"), None),
            (("spread", "n", 2), ("spread", "n", "k", "a"), 7),
            (("spread", "n", 3), ("spread", "n", "g", "a"), None),
            (("spread", "m", 2), ("spread", "m", "k", "a"), None),
            (("spread", "m", 3), ("spread", "m", "g", "a"), None),
            (("spread", "p", 2), ("spread", "p", "k", "a"), 10),
            (("spread", "p", 3), ("spread", "p", "g", "a"), None),
        ])

    def test_of_a_library(self):
        self.check(4, [
            (("of", "o"), ("name", "o", "a"), 1),
            (("of", "l"), ("name", "l", "a"), None),
            (("of", "m"), ("name", "m", "a"), None),
            (("of", "n"), ("name", "n", "a"), 6),
        ])

    def test_new_lists(self):
        view = full()
        for index in range(len(USES)):
            for rows in [view.tellers, view.foremost]:
                found = rows(index)
                rows(index).clear()
                expect(self, found, rows(index))


class WrongValuesTest(unittest.TestCase):
    def test_indexes(self):
        view = full()
        for value in [*STRANGE[:3], *STRANGE[4:], Greedy(), Touchy(), 7, 100, -7, "0", (0,), [0]]:
            for call in [view, view.spots, view.tellers, view.foremost]:
                expect_error(self, "NoUse", value, call, value)
            for spot in [("own",), None]:
                expect_error(self, "NoUse", value, view.place_of, value, spot)
                expect_error(self, "NoUse", value, view.told, value, spot)
                expect_error(self, "NoUse", value, view.silences, value, spot, spot)
        none = View(Caller(ring()), Book())
        expect_error(self, "NoUse", 0, none, 0)
        expect_error(self, "NoUse", 0, none.silences, one=None, other=None, index=0)

    def test_spots(self):
        view = full(Book(bodies="never"))
        others = [("scope", 4), ("scope", -1), ("elder", 2, 1), ("named", 0, "l"), ("named", 1, "p"), ("all", 4, "l")]
        others += [("all", 2, "o"), ("of", "o"), ("member", 0), ("spread", "l", 2), ("scope", True), ("scope", False)]
        others += [["own"], ("own", 0), ("all", False, "l"), ("named", True, "n"), ("all", 0, "z"), "own", ()]
        for value in [*ANY, *others]:
            expect_error(self, "BadSpot", value, view.place_of, 0, value)
            expect_error(self, "BadSpot", value, view.told, 0, value)
            expect_error(self, "BadSpot", value, view.silences, 0, value, ("own",))
            expect_error(self, "BadSpot", value, view.silences, 0, value, None)
            expect_error(self, "BadSpot", value, view.silences, 0, ("own",), value)
            expect_error(self, "BadSpot", value, view.silences, 0, value, value)

    def test_spots_of_other_uses(self):
        view = full()
        spots = {spot for index in range(len(USES)) for spot in view.spots(index)}
        for index in range(len(USES)):
            for spot in sorted(spots - set(view.spots(index)), key=repr):
                expect_error(self, "BadSpot", spot, view.told, index, spot)
                expect_error(self, "BadSpot", spot, view.place_of, index=index, spot=spot)
        for value in [("member", True), ("member", False), ("spread", "l", True), ("elder", 2, True)]:
            for index in range(len(USES)):
                expect_error(self, "BadSpot", value, view.told, index, value)


class SilencesTest(unittest.TestCase):
    def pairs(self, view, index):
        spots = view.spots(index)
        return {(one, other) for one in spots for other in spots if view.silences(index, one, other)}

    def check(self, view, index, rows):
        """Each spot of a row silences exactly those of the later rows; the rows hold all spots."""
        wanted = set()
        for at, row in enumerate(rows):
            wanted |= {(one, other) for one in row for later in rows[at + 1:] for other in later}
        self.assertEqual(self.pairs(view, index), wanted)
        self.assertEqual(sorted(view.spots(index)), sorted(spot for row in rows for spot in row))

    def small(self, **parts):
        """A use in a body in a block in a body, with one spot each of own, named and all."""
        world = World([("l", [("a", 1)], [], [])], [("g", None, []), ("k", "g", [])])
        caller = Caller(
            world,
            [("named", "l", "a", "a"), ("all", "l")],
            classes=[("h", "k", []), ("i", "h", [])],
            scopes=[("body", None, "h"), ("block", 0, []), ("body", 1, "i")],
            uses=[("name", 2, "a")],
        )
        return View(caller, Book(**parts))

    def test_scopes(self):
        one = [[("elder", 0, 1)], [("elder", 0, 2)], [("elder", 0, 3)]]
        two = [[("elder", 2, 1)], [("elder", 2, 2)]]
        near, block, far = [("scope", 0)], [("scope", 1)], [("scope", 2)]
        top = [[("own",)], [("named", 0, "l")], [("all", 1, "l")]]
        self.check(self.small(), 0, [near, *one, block, far, *two, *top])
        self.check(self.small(bodies="behind"), 0, [near, block, far, *top, *one, *two])
        self.check(self.small(bodies="never"), 0, [near, block, far, *top])

    def test_orders(self):
        spots = {"own": ("own",), "named": ("named", 0, "l"), "all": ("all", 1, "l")}
        scopes = [[("scope", 0)], [("scope", 1)], [("scope", 2)]]
        for order in ORDERS:
            top = [[spots[group] for group in level.split("=")] for level in order.split(" ")]
            self.check(self.small(order=order, bodies="never"), 0, [*scopes, *top])

    def imported(self, **parts):
        """A use with two imports of all names and one named one, of libraries l, m and n that stand in a row."""
        world = World([("l", [], ["m"], []), ("m", [("a", 1)], ["n"], []), ("n", [], [], [])])
        imports = [("all", "l"), ("named", "l", "a", "b"), ("named", "l", "a", "b"), ("all", "m")]
        caller = Caller(world, imports, uses=[("name", None, "b")])
        return View(caller, Book(order="own=named=all", **parts))

    def row(self, kind, index, libraries="lmn"):
        spots = [(kind, index, library) for library in libraries]
        return {(one, other) for at, one in enumerate(spots) for other in spots[at + 1:]}

    def test_the_same_import(self):
        wanted = self.row("all", 0) | self.row("all", 3, "mn") | self.row("named", 1) | self.row("named", 2)
        for alls in ("use", "once"):
            self.assertEqual(self.pairs(self.imported(alls=alls), 0), wanted)
            self.assertEqual(self.pairs(self.imported(alls=alls, given="both"), 0), set())

    def test_unlike_imports(self):
        first, last = [("all", 0, x) for x in "lmn"], [("all", 3, x) for x in "mn"]
        for given, same_import in [
            ("both", set()),
            ("own", self.row("all", 0) | self.row("all", 3, "mn") | self.row("named", 1) | self.row("named", 2)),
        ]:
            view = self.imported(alls="first", given=given)
            self.assertEqual(self.pairs(view, 0), set(product(first, last)) | same_import)
            view = self.imported(alls="last", given=given)
            self.assertEqual(self.pairs(view, 0), set(product(last, first)) | same_import)

    def test_of_a_library(self):
        world = World([("l", [], ["m", "n"], []), ("m", [], ["o"], []), ("n", [], ["o"], []), ("o", [], [], [])])
        caller = Caller(world, [("whole", "l")], uses=[("of", "l", "a")])
        wanted = {(("of", "l"), ("of", other)) for other in "mno"}
        self.assertEqual(self.pairs(View(caller, Book()), 0), wanted)
        self.assertEqual(self.pairs(View(caller, Book(given="both")), 0), set())

    def test_members_and_spreads(self):
        world = World([("l", [], [], []), ("m", [], [], [])], [("g", None, []), ("k", "g", [])])
        caller = Caller(world, [("all", "l"), ("all", "m")], uses=[("member", "k", "a")])
        members, near = [("member", 0), ("member", 1)], [("spread", "l", 0), ("spread", "m", 0)]
        far = [("spread", "l", 1), ("spread", "m", 1)]
        for spreads in ("member", "spread", "tie"):
            wanted = {tuple(members)}
            if spreads == "member":
                wanted |= set(product(members, near + far))
            if spreads == "spread":
                wanted |= set(product(near + far, members))
            self.assertEqual(self.pairs(View(caller, Book(spreads=spreads, near=False)), 0), wanted)
            self.assertEqual(self.pairs(View(caller, Book(spreads=spreads)), 0), wanted | set(product(near, far)))

    def test_by_the_names_of_the_arguments(self):
        view = full()
        expect(self, True, view.silences(other=("own",), one=("scope", 0), index=0))
        expect(self, False, view.silences(index=0, one=("own",), other=("scope", 0)))

    def test_all_books(self):
        parts = product(ORDERS, ("own", "both"), ("use", "once", "first", "last"), ("ahead", "behind", "never"))
        for order, given, alls, bodies in parts:
            self.check_model(full(Book(order=order, given=given, alls=alls, bodies=bodies)), [0])
        for spreads, near, given in product(("member", "spread", "tie"), (True, False), ("own", "both")):
            self.check_model(full(Book(spreads=spreads, near=near, given=given)), range(1, len(USES)))

    def check_model(self, view, indexes):
        for index in indexes:
            spots, use = view.spots(index), view.caller.uses[index]
            for one, other in product(spots, spots):
                self.assertIs(view.silences(index, one, other), model.silenced(view, use, one, other))


class FindsTest(unittest.TestCase):
    def check(self, view, *results):
        expect(self, list(results), view.results())
        for index, result in enumerate(results):
            expect(self, result, view(index))
            expect(self, result, view(index=index))
            things = {thing for _, thing in view.foremost(index)}
            self.assertEqual(len(things), {"found": 1, "nothing": 0}.get(result[0], len(things)))

    def test_the_full_caller(self):
        nothing, clash = ("nothing",), ("clash",)
        self.check(full(), ("found", 21), clash, ("found", 21), ("found", 12), ("found", 1), nothing, nothing)
        view = full(Book.strict())
        self.check(view, ("found", 23), clash, clash, clash, clash, nothing, nothing)
        expect(self, [(("all", 0, "l"), 3), (("all", 4, "p"), 8), (("all", 5, "l"), 3)], view.foremost(1))
        self.check(full(Book.late()), ("found", 23), ("found", 3), clash, ("found", 4), ("found", 1), nothing, nothing)

    def test_one_thing_at_several_spots_is_found(self):
        world = World([("l", [], ["m"], []), ("m", [("a", 1)], [], [])])
        imports = [("all", "l"), ("named", "l", "a", "a"), ("all", "m")]
        view = View(Caller(world, imports, uses=[("name", None, "a")]), Book(order="own=named=all"))
        wanted = [(("named", 1, "m"), 1), (("all", 0, "m"), 1), (("all", 2, "m"), 1)]
        expect(self, wanted, view.foremost(0))
        expect(self, wanted, view.tellers(index=0))
        self.check(view, ("found", 1))
        view = View(view.caller, Book(alls="last", order="all named own"))
        expect(self, [(("all", 2, "m"), 1)], view.foremost(index=0))
        self.check(view, ("found", 1))

    def test_two_libraries_do_not_cut_off_together(self):
        # o is behind m and n on all ways, but behind none of them alone; it is not seen all the same.
        libraries = [("l", [], ["m", "n"], []), ("m", [("a", 1)], ["o"], []), ("n", [("a", 2)], ["o"], [])]
        world = World([*libraries, ("o", [("a", 3)], [], [])])
        view = View(Caller(world, [("whole", "l")], uses=[("of", "l", "a")]), Book())
        expect(self, [(("of", "m"), 1), (("of", "n"), 2), (("of", "o"), 3)], view.foremost(0))
        self.check(view, ("clash",))

    def test_views_at_random(self):
        for view in views(400, 5):
            uses = view.caller.uses
            for index, use in enumerate(uses):
                rows = {spot: (place, thing) for spot, place, thing in model.facts(view, use)}
                spots = view.spots(index)
                self.assertEqual(len(spots), len(rows))
                for spot in spots:
                    expect(self, rows[spot], (view.place_of(index, spot), view.told(index, spot)))
                    for other in spots:
                        self.assertIs(view.silences(index, spot, other), model.silenced(view, use, spot, other))
                tellers = [(spot, rows[spot][1]) for spot in spots if rows[spot][1] is not None]
                expect(self, tellers, view.tellers(index))
                foremost = model.front(view, use)
                expect(self, [row for row in tellers if row in foremost], view.foremost(index))
            expect(self, [model.finds(view, use) for use in uses], view.results())

    def test_the_order_of_libraries_does_not_count(self):
        draw = random.Random(6)
        for view in views(200, 7):
            world, caller = view.caller.world, view.caller
            names = draw.sample(world.library_names(), len(world.library_names()))
            rows = [
                (name, list(world.names_of(name).items()), world.gives_of(name)[::-1], world.spreads_of(name))
                for name in names
            ]
            owners = [(name, world.elder_of(name), list(world.members_of(name).items())) for name in world.class_names()]
            parts = {"own": caller.own, "classes": caller.classes, "scopes": caller.scopes, "uses": caller.uses}
            other = View(Caller(World(rows, owners), caller.imports, **parts), view.book)
            expect(self, view.results(), other.results())

    def test_an_addition_is_told(self):
        for view in [full(draw_book(random.Random(seed))) for seed in range(20)]:
            for index in range(len(USES)):
                for spot in view.spots(index):
                    place = view.place_of(index, spot)
                    if place is not None and view.told(index, spot) is None:
                        later = View(view.caller + Addition(place, 99), view.book)
                        expect(self, 99, later.told(index, spot))
                        expect(self, view.spots(index), later.spots(index))


class NothingChangesTest(unittest.TestCase):
    def test_views(self):
        view, again = full(), full()
        for index in range(len(USES)):
            for call in [view, view.spots, view.tellers, view.foremost]:
                call(index)
            spots = view.spots(index)
            for spot in spots:
                view.silences(index, spot, spots[0])
                view.place_of(index, spot)
                view.told(index, spot)
        view.results().clear()
        self.assertTrue(view == again)
        self.assertTrue(same(view.results(), again.results()))


class ExampleTest(unittest.TestCase):
    def test_the_example_of_the_document(self):
        libraries = [("l", [("a", 1)], [], []), ("m", [("a", 2)], [], [])]
        world = World(libraries, [("k", None, [("a", 3)])])
        caller = Caller(
            world,
            [("all", "l"), ("all", "m")],
            classes=[("h", "k", [])],
            scopes=[("body", None, "h")],
            uses=[("name", None, "a"), ("name", 0, "a")],
        )
        told = [View(caller, Book()).results(), View(caller, Book(alls="last", bodies="behind")).results()]
        expect(self, [[("clash",), ("found", 3)], [("found", 2), ("found", 2)]], told)
        wanted = [("scope", 0), ("elder", 0, 1), ("own",), ("all", 0, "l"), ("all", 1, "m")]
        expect(self, wanted, View(caller, Book()).spots(1))


if __name__ == "__main__":
    unittest.main()
