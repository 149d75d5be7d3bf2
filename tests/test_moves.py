import random
import unittest
from itertools import combinations, permutations

import model
from addednames.books import Book
from addednames.callers import Caller
from addednames.moves import _flaw_behind, flaw, least_moves, moved, moves
from addednames.papers import is_safe
from addednames.problems import problems
from addednames.touching import risks, touching
from addednames.views import View
from addednames.worlds import World
from chance import draw_growing, right_views
from support import STRANGE, Greedy, Touchy, expect, expect_error

ANY = (*STRANGE, Greedy(), Touchy(), "z", "a", 1, ["l"], ("l",))
NO_MOVES = (
    *ANY,
    ["spell", 0],
    ("spell",),
    ("spell", 0, 0),
    ("spell", False),
    ("spell", "0"),
    ("spell", None),
    ("spell", -1),
    ("spell", 1),
    ("spell", 9),
    ("home", 0),
    ("whole", 9),
    ("Spell", 0),
    (Greedy(), 0),
    ("spell", Greedy()),
    (["spell"], 0),
)


def small():
    """l gives on m, m on n; o gives on m, too."""
    rows = [("l", [], ["m"], []), ("m", [("a", 1), ("b", 2)], ["n"], []), ("n", [("c", 3)], [], []), ("o", [], ["m"], [])]
    return World(rows, [("k", None, [("x", 4)])])


def view(imports=(), uses=(), book=None, **parts):
    return View(Caller(small(), imports, uses=uses, **parts), Book() if book is None else book)


def wrong():
    return view([("all", "l")], [("name", None, "z"), ("name", None, "a")])


def name(letter, scope=None):
    return "name", scope, letter


def model_moves(one):
    """A dict from the moves to the library and the name at which each one finds its thing, by a second reading."""
    caller, book, world = one.caller, one.book, one.caller.world
    found = {}
    for i, entry in enumerate(caller.imports):
        if entry[0] == "named":
            (holder,) = model.seen_from(world, book, entry[1], entry[2])
            if holder != entry[1]:
                found["home", i] = (holder, entry[2])
    found.update({("spell", i): None for i, entry in enumerate(caller.imports) if entry[0] == "all"})
    for u, use in enumerate(caller.uses):
        if use[0] == "name":
            rows = [spot for spot, _ in model.front(one, use) if spot[0] in ("named", "all")]
            places = {(spot[2], caller.imports[spot[1]][2] if spot[0] == "named" else use[2]) for spot in rows}
        else:
            places = {(x, use[2]) for x in model.seen_from(world, book, use[1], use[2]) if x != use[1]} if use[0] == "of" else ()
        if places:
            (found["whole", u],) = places
    return found


def model_moved(one, chosen):
    """The view behind some moves, by a second reading."""
    caller, plan = one.caller, model_moves(one)
    imports = []
    for i, entry in enumerate(caller.imports):
        if ("home", i) in chosen:
            entry = ("named", plan["home", i][0], entry[2], entry[3])
        if ("spell", i) not in chosen:
            imports.append(entry)
            continue
        rows = set()
        for u, use in enumerate(caller.uses):
            if use[0] == "name" and ("whole", u) not in chosen:
                rows |= {(use[2], spot[2]) for spot, _ in model.front(one, use) if spot[:2] == ("all", i)}
        imports.extend(("named", x, n, n) for n, x in sorted(rows))
    uses = list(caller.uses)
    for u in range(len(uses)):
        if ("whole", u) in chosen:
            uses[u] = ("of", *plan["whole", u])
            if ("whole", plan["whole", u][0]) not in imports:
                imports.append(("whole", plan["whole", u][0]))
    parts = {"own": caller.own, "classes": caller.classes, "scopes": caller.scopes, "uses": uses}
    return View(Caller(caller.world, imports, **parts), one.book)


def model_flaw(one, chosen, **grown):
    later = model_moved(one, chosen)
    found = [index for index, result in enumerate(one.results()) if later.results()[index] != result]
    if found:
        return ("use", found[0])
    if problems(later):
        return ("problem", problems(later)[0])
    if touching(later, **grown):
        return ("touched", *touching(later, **grown)[0])
    return ("risk", *risks(later, **grown)[0]) if risks(later, **grown) else None


def sets_of(rows):
    return [row for many in range(len(rows) + 1) for row in combinations(rows, many)]


class MovesTest(unittest.TestCase):
    def test_home(self):
        imports = [("named", "m", "a", "a"), ("named", "l", "a", "q"), ("all", "n"), ("named", "l", "c", "c")]
        expect(self, [("home", 1), ("home", 3), ("spell", 2)], moves(view(imports)))
        expect(self, [("home", 1), ("home", 3), ("spell", 2)], moves(view(imports, book=Book(given="both"))))

    def test_spell(self):
        imports = [("all", "l"), ("whole", "l"), ("all", "n"), ("all", "l")]
        expect(self, [("spell", 0), ("spell", 2), ("spell", 3)], moves(view(imports)))
        expect(self, [], moves(view([("whole", "l"), ("named", "m", "a", "a")])))
        expect(self, [], moves(view()))

    def test_whole(self):
        uses = [name("a"), ("of", "l", "a"), ("of", "m", "b"), name("q"), ("member", "k", "x"), name("c"), name("y")]
        imports = [("whole", "l"), ("whole", "m"), ("all", "l"), ("named", "m", "b", "y")]
        one = view(imports, uses, own=[("q", 11)])
        expect(self, [("spell", 2), ("whole", 0), ("whole", 1), ("whole", 5), ("whole", 6)], moves(one))
        expect(self, [("spell", 0)], moves(view([("all", "l")], [name("a", 0)], scopes=[("block", None, [("a", 11)])])))

    def test_views_at_random(self):
        told = {}
        for one in right_views(500, 101):
            wanted = list(model_moves(one))
            expect(self, wanted, moves(view=one))
            for kind, _ in wanted:
                told[kind] = told.get(kind, 0) + 1
        self.assertGreater(min(told["home"], told["spell"], told["whole"]), 30)

    def test_not_right(self):
        expect_error(self, "NotRight", [("use", 0)], moves, wrong())


class MovedTest(unittest.TestCase):
    def check(self, one, chosen, imports, uses=None):
        """The moves lead to these imports and uses, in any order; all else stays."""
        wanted = Caller(
            one.caller.world,
            imports,
            own=one.caller.own,
            classes=one.caller.classes,
            scopes=one.caller.scopes,
            uses=one.caller.uses if uses is None else uses,
        )
        for row in permutations(chosen):
            for found in [moved(one, list(row)), moved(chosen=row, view=one)]:
                self.assertIs(type(found), View)
                self.assertEqual(found.caller.imports, wanted.imports)
                self.assertEqual(found.caller.uses, wanted.uses)
                self.assertTrue(found == View(wanted, one.book))

    def test_no_move(self):
        one = view([("all", "l")], [name("a")])
        self.check(one, [], one.caller.imports)
        self.assertTrue(moved(one, []) == one)

    def test_home(self):
        imports = [("named", "l", "a", "q"), ("whole", "l"), ("named", "o", "c", "c")]
        one = view(imports, [name("q"), name("c")], own=[("z", 11)])
        self.check(one, [("home", 0)], [("named", "m", "a", "q"), *imports[1:]])
        self.check(one, [("home", 0), ("home", 2)], [("named", "m", "a", "q"), imports[1], ("named", "n", "c", "c")])

    def test_spell(self):
        imports = [("all", "l"), ("all", "o"), ("named", "n", "c", "c")]
        uses = [name("b"), name("a"), name("b"), name("c"), name("q")]
        one = view(imports, uses, own=[("q", 11)])
        both = [("named", "m", "a", "a"), ("named", "m", "b", "b")]
        self.check(one, [("spell", 0)], [*both, *imports[1:]])
        self.check(one, [("spell", 1)], [imports[0], *both, imports[2]])
        self.check(one, [("spell", 0), ("spell", 1)], [*both, *both, imports[2]])
        self.check(View(one.caller, Book(alls="last")), [("spell", 0)], imports[1:])
        self.check(View(one.caller, Book(alls="last")), [("spell", 1)], [imports[0], *both, imports[2]])
        self.check(view([("all", "l")]), [("spell", 0)], [])

    def test_whole(self):
        imports = [("all", "l"), ("named", "o", "c", "y"), ("whole", "l")]
        uses = [name("y"), ("of", "l", "b"), name("a"), name("b")]
        one = view(imports, uses)
        self.check(one, [("whole", 0)], [*imports, ("whole", "n")], [("of", "n", "c"), *uses[1:]])
        self.check(one, [("whole", 1)], [*imports, ("whole", "m")], [uses[0], ("of", "m", "b"), *uses[2:]])
        added = [("whole", "n"), ("whole", "m")]
        self.check(one, [("whole", 2), ("whole", 0)], [*imports, *added], [("of", "n", "c"), uses[1], ("of", "m", "a"), uses[3]])
        self.check(one, [("whole", 3), ("whole", 2)], [*imports, added[1]], [*uses[:2], ("of", "m", "a"), ("of", "m", "b")])
        one = view([("whole", "m"), ("all", "o")], [name("a")])
        self.check(one, [("whole", 0)], one.caller.imports, [("of", "m", "a")])

    def test_several_kinds_at_once(self):
        imports = [("named", "l", "a", "y"), ("all", "l"), ("all", "n")]
        uses = [name("c"), name("b"), name("y"), name("a")]
        one = view(imports, uses, book=Book(alls="first"))
        self.check(one, [("home", 0), ("spell", 1), ("whole", 1), ("whole", 3)], [
            ("named", "m", "a", "y"),
            ("named", "n", "c", "c"),
            ("all", "n"),
            ("whole", "m"),
        ], [name("c"), ("of", "m", "b"), name("y"), ("of", "m", "a")])
        self.check(one, [("home", 0), ("spell", 2), ("whole", 2), ("whole", 0)], [
            ("named", "m", "a", "y"),
            ("all", "l"),
            ("whole", "n"),
            ("whole", "m"),
        ], [("of", "n", "c"), name("b"), ("of", "m", "a"), name("a")])
        self.check(one, [("spell", 1), ("whole", 0), ("whole", 1), ("whole", 3)], [
            imports[0],
            imports[2],
            ("whole", "n"),
            ("whole", "m"),
        ], [("of", "n", "c"), ("of", "m", "b"), name("y"), ("of", "m", "a")])

    def test_other_parts_stay(self):
        parts = {"own": [("z", 11)], "classes": [("h", "k", [("w", 12, False)])]}
        scopes = [("block", None, [("v", 13)]), ("body", 0, "h")]
        one = view([("all", "l")], [name("a", 1), ("member", "h", "w")], scopes=scopes, **parts)
        self.check(one, [("whole", 0), ("spell", 0)], [("whole", "m")], [("of", "m", "a"), ("member", "h", "w")])
        self.check(one, [("spell", 0)], [("named", "m", "a", "a")])

    def test_views_at_random(self):
        draw = random.Random(102)
        for one in right_views(300, 103):
            for _ in range(4):
                chosen = [move for move in moves(one) if draw.random() < 0.6]
                wanted = model_moved(one, chosen)
                draw.shuffle(chosen)
                self.assertTrue(moved(one, chosen) == wanted)

    def test_bad_moves(self):
        one = view([("all", "l")], [name("a")])
        for value in NO_MOVES:
            for call in (moved, flaw):
                expect_error(self, "BadMove", value, call, one, [value])
                expect_error(self, "BadMove", value, call, one, (("whole", 0), value, ("spell", 0)))
                expect_error(self, "BadMove", value, call, one, [("whole", 0), value, ("spell", 0), ("spell", 0), None])
                expect_error(self, "NotRight", [("use", 0)], call, wrong(), [value])
        for call in (moved, flaw):
            expect_error(self, "BadMove", ("spell", 0), call, one, [("spell", 0), ("whole", 0), ("spell", 0), None])
            expect_error(self, "NotRight", [("use", 0)], call, wrong(), [])
            expect_error(self, "NotRight", [("use", 0)], call, wrong(), [("spell", 0), ("spell", 0)])


class FlawTest(unittest.TestCase):
    def check(self, wanted, one, chosen, **grown):
        expect(self, wanted, flaw(one, chosen, **grown))
        expect(self, wanted, flaw(chosen=tuple(chosen)[::-1], view=one, **grown))

    def test_good_moves(self):
        one = view([("all", "l")], [name("a")])
        self.check(None, one, [("spell", 0)])
        self.check(None, one, [("whole", 0)])
        self.check(None, one, [("spell", 0), ("whole", 0)])
        self.check(None, one, [], libraries=["m", "n", "o"])
        self.check(None, view(), [])

    def test_touched(self):
        one = view([("all", "l")], [name("a")])
        self.check(("touched", ("name", "l", "a"), "changes"), one, [])
        self.check(("touched", ("name", "l", "a"), "changes"), one, [], libraries=["l", "l"], classes=[])
        member = view([("all", "l")], [("member", "k", "x")], book=Book(spreads="spread"))
        self.check(("touched", ("spread", "l", "k", "x"), "changes"), member, [])
        self.check(("touched", ("spread", "n", "k", "x"), "changes"), member, [], libraries=["o", "n"])

    def test_risks(self):
        world = World([("l", [], ["m", "n"], []), ("m", [], [], []), ("n", [], [], [])])
        one = View(Caller(world, [("all", "l"), ("all", "n")]), Book(alls="once"))
        # From n, n itself is seen, so l does not cut it off.
        self.check(("risk", "l", "n"), one, [])
        self.check(("risk", "m", "n"), one, [], libraries=["n", "m"])
        self.check(("risk", "m", "n"), one, [("spell", 1)])
        self.check(None, one, [("spell", 0)])
        self.check(None, one, [("spell", 0), ("spell", 1)])

    def test_uses(self):
        # The name that is given is ahead of the own one; the named import that comes in its place is behind it.
        imports, uses = [("all", "l"), ("named", "n", "c", "y")], [name("y"), name("a")]
        one = view(imports, uses, own=[("a", 11)], book=Book(order="all own named"))
        expect(self, [("found", 3), ("found", 1)], one.results())
        self.check(("use", 1), one, [("spell", 0)])
        one = view([("all", "l"), ("all", "l")], [name("a"), name("q")], own=[("q", 11)], book=Book(order="all own named"))
        self.check(("touched", ("name", "l", "q"), "changes"), one, [("whole", 0), ("spell", 0)])

    def test_each_answer(self):
        told = {}
        for one in self.drawn():
            for chosen in sets_of(moves(one))[:40]:
                found = flaw(one, chosen)
                kind = None if found is None else found[0]
                told[kind] = told.get(kind, 0) + 1
        # Moves take imports to the libraries that have the names, so no caller was found that they leave with a problem
        # although each use finds what it found.
        self.assertEqual(set(told), {None, "use", "touched", "risk"}, told)

    def test_problems_behind_uses_and_ahead_of_places(self):
        parts = {"classes": [("h", "k", [("x", 11, False)])]}
        later = view([("all", "l")], [name("a")], book=Book(marks=True), **parts)
        self.assertNotEqual(touching(View(later.caller, Book())), [])
        grown = {"libraries": None, "classes": None}
        expect(self, ("problem", ("mark", "h", "x")), _flaw_behind([("found", 1)], later, grown))
        expect(self, ("use", 0), _flaw_behind([("found", 2)], later, grown))

    def drawn(self):
        rows = right_views(150, 104)
        for given in ("own", "both"):
            rows += right_views(60, 105, book=Book(alls="once", given=given))
        return rows

    def test_views_at_random(self):
        draw = random.Random(106)
        for one in self.drawn():
            for _ in range(3):
                chosen = [move for move in moves(one) if draw.random() < 0.6]
                grown = draw_growing(draw, one.caller.world)
                wanted = model_flaw(one, chosen, **grown)
                draw.shuffle(chosen)
                expect(self, wanted, flaw(one, chosen, **grown))

    def test_unknown_names_ahead_of_the_errors_of_moved(self):
        for one in [wrong(), view([("all", "l")])]:
            for value in [*ANY, "k"]:
                expect_error(self, "UnknownName", value, flaw, one, [None], libraries=["l", value, None], classes=[None])
            for value in [*ANY, "l"]:
                expect_error(self, "UnknownName", value, flaw, one, [None], libraries=["l"], classes=["k", value, None])


class LeastMovesTest(unittest.TestCase):
    def check(self, wanted, one, **grown):
        expect(self, wanted, least_moves(one, **grown))

    def test_sets(self):
        one = view([("all", "l")], [name("a")])
        self.check([(("spell", 0),), (("whole", 0),)], one)
        self.check([()], one, libraries=["m", "n", "o"])
        self.check([()], one, libraries=[], classes=[])
        self.check([()], view())

    def test_no_set(self):
        # A member of an elder is found, and the class itself can get one.
        world = World([("l", [], [], [])], [("g", None, [("x", 1)]), ("k", "g", [])])
        one = View(Caller(world, [("all", "l")], uses=[("member", "k", "x")]), Book())
        self.check([], one)
        self.check([], one, libraries=[])
        self.check([()], one, classes=["g"])

    def test_several_moves_together(self):
        imports, uses = [("all", "l"), ("named", "o", "c", "y")], [name("a"), name("y"), name("b")]
        one = view(imports, uses)
        expect(self, [("home", 1), ("spell", 0), ("whole", 0), ("whole", 1), ("whole", 2)], moves(one))
        wanted = [
            (("home", 1), ("spell", 0)),
            (("spell", 0), ("whole", 1)),
            (("home", 1), ("whole", 0), ("whole", 2)),
            (("whole", 0), ("whole", 1), ("whole", 2)),
        ]
        self.check(wanted, one)
        self.check([(("spell", 0),), (("whole", 0), ("whole", 2))], one, libraries=["l"])
        self.check([(("home", 1),), (("whole", 1),)], one, libraries=["o"])

    def by_trying(self, one, **grown):
        results, good = one.results(), []
        for chosen in sets_of(moves(one)):
            later = moved(one, list(chosen))
            if later.results() == results and is_safe(later, **grown):
                good.append(chosen)
        return [row for row in good if not any(set(other) < set(row) for other in good)]

    def test_all_sets_one_by_one(self):
        draw, told = random.Random(107), {}
        rows = right_views(250, 108, libraries="lmn")
        for given in ("own", "both"):
            rows += right_views(60, 109, book=Book(alls="once", given=given))
        for one in rows:
            grown = draw.choice(({}, draw_growing(draw, one.caller.world)))
            if len(moves(one)) <= 5:
                wanted = self.by_trying(one, **grown)
                self.check(wanted, one, **grown)
                kinds = "none" if not wanted else "empty" if wanted == [()] else "one" if len(wanted) == 1 else "several"
                told[kinds] = told.get(kinds, 0) + 1
        self.assertGreater(min(told[kind] for kind in ("none", "empty", "one", "several")), 5, told)

    def many(self, count, uses=()):
        return view([("all", "l")] * count, uses)

    def test_eight_and_nine_moves(self):
        uses = [name("a"), name("b"), name("c")]
        imports = [("all", "l"), ("named", "l", "a", "p"), ("named", "o", "b", "q"), ("named", "l", "c", "r"), ("all", "o")]
        one = view(imports, uses)
        self.assertEqual(len(moves(one)), 8)
        self.check(self.by_trying(one), one)
        self.check(self.by_trying(one, libraries=["l"]), one, libraries=["l"])
        self.check([()], self.many(8), libraries=["l"])
        expect_error(self, "TooMany", 8, least_moves, self.many(9))
        expect_error(self, "TooMany", 8, least_moves, self.many(8, [name("a")]), libraries=[], classes=[])

    def test_errors(self):
        many_wrong = self.many(9, [name("z")])
        for one in [wrong(), many_wrong]:
            expect_error(self, "NotRight", [("use", 0)], least_moves, one)
            expect_error(self, "NotRight", [("use", 0)], least_moves, one, libraries=[], classes=[])
        for one in [wrong(), many_wrong, self.many(9), self.many(1)]:
            for value in [*ANY, "k"]:
                expect_error(self, "UnknownName", value, least_moves, one, libraries=["l", value, None], classes=[None])
            for value in [*ANY, "l"]:
                expect_error(self, "UnknownName", value, least_moves, one, classes=["k", value, None])

    def test_by_name_alone(self):
        one = view([("all", "l")])
        with self.assertRaises(TypeError):
            least_moves(one, ["l"])
        with self.assertRaises(TypeError):
            flaw(one, [], ["l"])


class NothingChangesTest(unittest.TestCase):
    def test_views_and_lists(self):
        one, chosen, libraries = view([("all", "l")], [name("a")]), [("whole", 0), ("spell", 0)], ["l", "m"]
        moves(one).clear()
        least_moves(one).clear()
        later = moved(one, chosen)
        chosen.pop()
        flaw(one, chosen, libraries=libraries)
        expect(self, [[("whole", 0)], ["l", "m"]], [chosen, libraries])
        self.assertTrue(later == moved(one, [("spell", 0), ("whole", 0)]))
        expect(self, [("spell", 0), ("whole", 0)], moves(one))
        self.assertTrue(one == view([("all", "l")], [name("a")]))


class ExampleTest(unittest.TestCase):
    def test_the_example_of_the_document(self):
        world = World([("l", [], ["m"], []), ("m", [("a", 1)], [], [])])
        one = View(Caller(world, [("all", "l")], uses=[("name", None, "a")]), Book())
        wanted = [[("spell", 0), ("whole", 0)], ("touched", ("name", "l", "a"), "changes"), (("named", "m", "a", "a"),)]
        expect(self, wanted, [moves(one), flaw(one, []), moved(one, [("spell", 0)]).caller.imports])
        expect(self, [(("spell", 0),), (("whole", 0),)], least_moves(one))


if __name__ == "__main__":
    unittest.main()
