import random
import unittest
from itertools import combinations

import model
from addednames.additions import Addition
from addednames.books import Book
from addednames.callers import Caller
from addednames.cases import can
from addednames.effects import behind, effect, new_thing, places_for, touched_uses
from addednames.problems import problems
from addednames.views import View
from addednames.worlds import World
from chance import all_additions, right_views
from support import expect, expect_error


def world():
    """l gives on m and n; m has a; classes g and k, and a spread of n on g."""
    return World(
        [("l", [], ["m", "n"], []), ("m", [("a", 1)], [], []), ("n", [], [], [("g", "s", 2)])],
        [("g", None, [("x", 3)]), ("k", "g", [])],
    )


IMPORTS = [("all", "l"), ("named", "l", "a", "b"), ("whole", "l")]
CLASSES = [("h", "k", [("y", 4, False)])]
USES = [("name", None, "a"), ("name", None, "b"), ("of", "l", "a"), ("member", "k", "x"), ("member", "h", "s")]
AT_L, AT_N, AT_K = Addition(("name", "l", "a"), 9), Addition(("name", "n", "a"), 10), Addition(("member", "k", "x"), 11)
MARKED, SPREAD = Addition(("member", "k", "y"), 12), Addition(("spread", "m", "k", "s"), 13)
FREE = Addition(("name", "l", "z"), 14)


def view(book=None, uses=USES, imports=IMPORTS):
    return View(Caller(world(), imports, classes=CLASSES, uses=uses), Book() if book is None else book)


class BehindTest(unittest.TestCase):
    def test_the_caller_with_the_additions(self):
        book = Book.late()
        for additions in [[], [AT_L], [AT_L, SPREAD, MARKED]]:
            before = view(book)
            later = behind(before, *additions)
            caller = before.caller
            for addition in additions:
                caller = caller + addition
            self.assertIsInstance(later, View)
            self.assertTrue(later == View(caller, book))
            self.assertTrue(before == view(book))

    def test_a_caller_that_is_not_right(self):
        wrong = view(uses=[("name", None, "z")])
        expect(self, ("found", 14), behind(wrong, FREE)(0))

    def test_errors(self):
        errors = [
            ("UnknownName", "z", Addition(("name", "z", "a"), 99)),
            ("UnknownName", "h", Addition(("member", "h", "a"), 99)),
            ("AlreadyThere", ("name", "m", "a"), Addition(("name", "m", "a"), 99)),
            ("BadThing", 1, Addition(("name", "n", "a"), 1)),
            ("BadThing", 4, Addition(("name", "n", "a"), 4)),
        ]
        for name, value, wrong in errors:
            for call in [behind, effect, touched_uses]:
                expect_error(self, name, value, call, view(), wrong)
                expect_error(self, name, value, call, view(), AT_L, wrong)
                expect_error(self, name, value, call, view(), wrong, Addition(("name", "zz", "a"), 99))

    def test_the_same_addition_twice(self):
        for call in [behind, effect, touched_uses]:
            expect_error(self, "AlreadyThere", ("name", "l", "a"), call, view(), AT_L, AT_L)
            expect_error(self, "BadThing", 9, call, view(), AT_L, Addition(("name", "n", "a"), 9))


class EffectTest(unittest.TestCase):
    def check(self, word, uses, *additions, book=None):
        expect(self, word, effect(view(book), *additions))
        expect(self, uses, touched_uses(view(book), *additions))

    def test_nothing_added(self):
        self.check("stays", [])
        expect(self, "stays", effect(view=view()))
        expect(self, [], touched_uses(view=view()))

    def test_one_addition(self):
        self.check("stays", [], FREE)
        self.check("changes", [0, 1, 2], AT_L)
        self.check("breaks", [0, 1, 2], AT_N)
        self.check("changes", [3], AT_K)
        self.check("changes", [4], SPREAD)
        self.check("breaks", [4], SPREAD, book=Book(near=False))
        self.check("changes", [4], Addition(("member", "g", "s"), 9))
        self.check("stays", [], Addition(("member", "g", "s"), 9), book=Book(spreads="spread"))
        self.check("breaks", [4], Addition(("member", "g", "s"), 9), book=Book(spreads="tie"))

    def test_without_a_use(self):
        self.check("stays", [], MARKED)
        self.check("breaks", [], MARKED, book=Book(marks=True))
        once = Book(alls="once")
        imports = [("all", "l"), ("all", "n")]
        for addition, word in [(AT_L, "stays"), (AT_N, "breaks"), (Addition(("name", "n", "z"), 9), "stays")]:
            expect(self, word, effect(view(once, (), imports[:1]), addition))
            expect(self, [], touched_uses(view(once, (), imports[:1]), addition))
        expect(self, "breaks", effect(view(Book(), (), IMPORTS), AT_N))
        expect(self, "stays", effect(view(Book(), (), IMPORTS), AT_L))
        expect(self, "stays", effect(view(Book(), (), imports), AT_N))

    def test_several_additions(self):
        self.check("changes", [0, 1, 2], AT_L, AT_N)
        self.check("changes", [0, 1, 2], AT_N, AT_L)
        self.check("changes", [0, 1, 2, 3, 4], AT_N, SPREAD, FREE, AT_K, AT_L)
        self.check("breaks", [0, 1, 2, 3, 4], AT_N, SPREAD, FREE, AT_K)
        self.check("breaks", [0, 1, 2], AT_L, MARKED, book=Book(marks=True))
        self.check("stays", [], FREE, MARKED)

    def test_two_additions_that_touch_together_alone(self):
        once = view(Book(alls="once"), [])
        first, second = Addition(("name", "m", "z"), 9), Addition(("name", "n", "z"), 10)
        expect(self, ["stays", "stays"], [effect(once, first), effect(once, second)])
        expect(self, ["breaks", "breaks"], [effect(once, first, second), effect(once, second, first)])
        expect(self, [], touched_uses(once, first, second))

    def test_not_right(self):
        wrong = view(Book(given="both"), uses=[("name", None, "z"), ("name", None, "a"), ("name", None, "y")])
        found = [("use", 0), ("use", 2)]
        unknown = Addition(("name", "zz", "a"), 99)
        for call in [effect, touched_uses]:
            for additions in [[], [FREE], [unknown], [AT_L, AT_L], [Addition(("name", "n", "a"), 1)]]:
                expect_error(self, "NotRight", found, call, wrong, *additions)
        # What is added might make the caller right, but it has to be right ahead of it.
        late = view(uses=[("name", None, "z")])
        expect_error(self, "NotRight", [("use", 0)], effect, late, FREE)

    def test_views_at_random(self):
        words = {"stays": 0, "changes": 0, "breaks": 0}
        for one in right_views(120, 31):
            results = [model.finds(one, use) for use in one.caller.uses]
            for addition in all_additions(one):
                word, uses = self.read(one, results, addition)
                expect(self, word, effect(one, addition))
                expect(self, uses, touched_uses(one, addition))
                words[word] += 1
                # What the table of the book leaves out does not occur.
                if word != "stays":
                    self.assertIsNotNone(can(one.book, addition.kind, word))
        self.assertTrue(all(words.values()), words)

    def read(self, one, results, addition):
        later = View(one.caller + addition, one.book)
        found = [model.finds(later, use) for use in later.caller.uses]
        uses = [index for index, result in enumerate(found) if result != results[index]]
        if model.wrongs(later):
            return "breaks", uses
        return "changes" if uses else "stays", uses

    def test_a_use_is_touched_by_several_if_it_is_by_one(self):
        draw = random.Random(32)
        for one in right_views(150, 33):
            rows = all_additions(one)
            chosen = [
                Addition(addition.place, 1000 + index)
                for index, addition in enumerate(draw.sample(rows, min(len(rows), 6)))
            ]
            alone = [touched_uses(one, addition) for addition in chosen]
            expect(self, sorted({use for uses in alone for use in uses}), touched_uses(one, *chosen))
            if effect(one, *chosen) != "stays":
                words = [effect(one, addition) for addition in chosen]
                words += [effect(one, *pair) for pair in combinations(chosen, 2)]
                self.assertNotEqual(set(words), {"stays"})


class PlacesForTest(unittest.TestCase):
    def test_all_places(self):
        wanted = [
            ("name", "l", "a"),
            ("name", "n", "a"),
            ("member", "g", "a"),
            ("member", "k", "a"),
            ("spread", "l", "g", "a"),
            ("spread", "l", "k", "a"),
            ("spread", "m", "g", "a"),
            ("spread", "m", "k", "a"),
            ("spread", "n", "g", "a"),
            ("spread", "n", "k", "a"),
        ]
        expect(self, wanted, list(places_for(world(), ["a"])))
        expect(self, wanted, list(places_for(names=("a",), world=world())))
        names = [(place[0], place[1], "b") for place in [("name", "l"), ("name", "m"), ("name", "n")]]
        rest = [(*place[:-1], "b") for place in wanted[2:]]
        expect(self, [*names, *rest, *wanted], list(places_for(world(), ["b", "a"])))
        expect(self, [*wanted, *wanted], list(places_for(world(), ["a", "a"])))

    def test_where_there_is_a_thing(self):
        rows = list(places_for(world(), ["s", "x"]))
        for place in [("spread", "n", "g", "s"), ("member", "g", "x")]:
            self.assertNotIn(place, rows)
        expect(self, 11 * 2 - 2, len(rows))

    def test_nothing(self):
        expect(self, [], list(places_for(world(), [])))
        expect(self, [], list(places_for(World(), ["a", "b"])))

    def test_a_generator(self):
        names = []
        rows = places_for(world(), names)
        names.append("a")
        expect(self, ("name", "l", "a"), next(rows))
        names.clear()
        expect(self, 9, len(list(rows)))
        wrong = places_for(None, ["a"])
        with self.assertRaises(AttributeError):
            next(wrong)


class NewThingTest(unittest.TestCase):
    def check(self, wanted, libraries=(), **parts):
        caller = Caller(World(libraries), **parts)
        expect(self, wanted, new_thing(caller))
        expect(self, wanted, new_thing(caller=caller))

    def test_the_least_one(self):
        self.check(1)
        self.check(1, [("l", [("a", 2)], [], [])])
        self.check(2, [("l", [("a", 1)], [], [])])
        self.check(3, [("l", [("a", 1)], [], [])], own=[("a", 2)])
        self.check(3, [("l", [("a", 2)], [], [])], own=[("a", 1), ("b", 4)])
        self.check(4, [("l", [("a", 3)], [], [])], classes=[("h", None, [("a", 1, True), ("b", 2, False)])])
        self.check(3, [("l", [("a", 4)], [], [])], scopes=[("block", None, [("a", 2), ("b", 1)])])
        self.check(5, own=[("a", 1)], classes=[("h", None, [("a", 2, True)])], scopes=[("block", None, [("a", 4), ("b", 3)])])


class NothingChangesTest(unittest.TestCase):
    def test_views_and_names(self):
        one, names = view(), ["a", "b"]
        for call in [behind, effect, touched_uses]:
            call(one, AT_L, SPREAD)
        touched_uses(one, AT_L).clear()
        list(places_for(one.caller.world, names))
        new_thing(one.caller)
        self.assertTrue(one == view())
        expect(self, ["a", "b"], names)
        expect(self, [0, 1, 2], touched_uses(one, AT_L))
        expect(self, [], problems(one))
        self.assertTrue(AT_L == Addition(("name", "l", "a"), 9))


class ExampleTest(unittest.TestCase):
    def test_the_example_of_the_document(self):
        caller = Caller(
            World([("l", [], ["m"], []), ("m", [("a", 1)], [], [])]),
            [("named", "l", "a", "b")],
            uses=[("name", None, "b")],
        )
        addition = Addition(("name", "l", "a"), 2)
        told = [effect(View(caller, Book()), addition), effect(View(caller, Book(given="both")), addition)]
        expect(self, ["changes", "breaks"], told)


if __name__ == "__main__":
    unittest.main()
