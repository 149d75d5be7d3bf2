"""The least sets of moves of callers with many moves, and how many sets are looked at for them."""

import random
import unittest
from itertools import chain, combinations
from unittest.mock import patch

from addednames import questions
from addednames.books import Book
from addednames.callers import Caller
from addednames.errors import TooMany
from addednames.moves import flaw, least_moves, moved, moves
from addednames.papers import is_safe
from addednames.problems import is_right
from addednames.views import View
from addednames.worlds import World
from chance import draw_growing, moving_views
from support import expect, expect_error

NAMES = "abcdefg"
NOTHING = {"libraries": [], "classes": []}
# The parts of the books of drawn callers that are not drawn.
FIXED = (
    {},
    {"given": "own"},
    {"given": "own", "alls": "once"},
    {"given": "own", "near": False, "spreads": "tie"},
    {"alls": "once"},
    {"given": "own", "order": "all own named"},
)


def top(name):
    return "name", None, name


def given_on(names, book=None, **parts):
    """l gives on m whole, which has the names; the caller imports all names of l, and uses each one."""
    held = [(name, index + 1) for index, name in enumerate(names)]
    world = World([("l", [], ["m"], []), ("m", held, [], [])])
    caller = Caller(world, [("all", "l")], uses=[top(name) for name in names], **parts)
    return View(caller, Book() if book is None else book)


def single(names, book=None):
    """The caller imports all names of the single library, and uses each one."""
    world = World([("l", [(name, index + 1) for index, name in enumerate(names)], [], [])])
    return View(Caller(world, [("all", "l")], uses=[top(name) for name in names]), Book() if book is None else book)


def two_named(first, second, book=None):
    """Two named imports from l of names that m gives, which are used so many times."""
    world = World([("l", [], ["m"], []), ("m", [("a", 1), ("b", 2)], [], [])])
    imports = [("named", "l", "a", "a"), ("named", "l", "b", "q")]
    uses = [*[top("a")] * first, *[top("q")] * second]
    return View(Caller(world, imports, uses=uses), Book() if book is None else book)


def wholes(*uses):
    return tuple(("whole", use) for use in uses)


def every(names):
    """The two least sets of the caller that uses all names that are given on."""
    return [(("spell", 0),), wholes(*range(len(names)))]


def parts_of(row):
    """All proper parts of a set."""
    return chain.from_iterable(combinations(row, many) for many in range(len(row)))


def looked_at(one, **grown):
    """How many sets of moves are looked at, and how often it is worked out whether a use stays as it is."""
    stays = questions.Footing._stays
    with patch.object(questions, "_failed", side_effect=questions._failed) as failed:
        with patch.object(questions.Footing, "_stays", autospec=True, side_effect=stays) as stayed:
            least_moves(one, **grown)
    return failed.call_count, stayed.call_count


class Base(unittest.TestCase):
    def check(self, wanted, one, **grown):
        expect(self, wanted, least_moves(one, **grown))
        self.check_sets(wanted, one, **grown)

    def check_sets(self, told, one, draws=25, **grown):
        """By flaw, each told set is good, no proper part of it is, and no other one out of drawn sets is a least one."""
        rows, draw = moves(one), random.Random(161)
        good = {}

        def is_good(chosen):
            if chosen not in good:
                good[chosen] = flaw(one, list(chosen), **grown) is None
            return good[chosen]

        for chosen in told:
            self.assertTrue(is_good(chosen), chosen)
            for part in parts_of(chosen):
                self.assertFalse(is_good(part), (chosen, part))
        for _ in range(draws):
            share = draw.choice((0.2, 0.5, 0.8))
            chosen = tuple(move for move in rows if draw.random() < share)
            if chosen not in told:
                self.assertFalse(is_good(chosen) and not any(is_good(part) for part in parts_of(chosen)), chosen)


class GivenOnTest(Base):
    def test_seven_names(self):
        one = given_on(NAMES)
        expect(self, [("spell", 0), *wholes(*range(7))], moves(one))
        self.check([(("spell", 0),), wholes(0, 1, 2, 3, 4, 5, 6)], one)

    def test_fewer_names(self):
        self.check([()], given_on(""))
        self.check([(("spell", 0),), (("whole", 0),)], given_on("a"))
        self.check([(("spell", 0),), (("whole", 0), ("whole", 1))], given_on("ab"))
        self.check([(("spell", 0),), (("whole", 0), ("whole", 1), ("whole", 2))], given_on("abc"))
        self.check([(("spell", 0),), wholes(0, 1, 2, 3, 4)], given_on("abcde"))

    def test_other_books(self):
        for names in ("ab", "abcde", NAMES):
            for book in (Book(given="both"), Book(alls="once"), Book(alls="first"), Book.late(), Book(order="all own named")):
                self.check(every(names), given_on(names, book))
            # An addition to l and the name of m clash at once, as long as all names are imported.
            self.check([(("spell", 0),)], given_on(names, Book(given="both", alls="once")))
            self.check([()], given_on(names, Book(given="both", alls="once")), libraries=["m"])

    def test_some_libraries_grow(self):
        for names in ("ab", "abc", "abcde", NAMES):
            one = given_on(names)
            for libraries in (["l"], ("l",), ["l", "l"], ["m", "l"], None):
                self.check(every(names), one, libraries=libraries)
                self.check(every(names), one, libraries=libraries, classes=[])
            for libraries in ([], (), ["m"], ("m", "m")):
                self.check([()], one, libraries=libraries)
                self.check([()], one, libraries=libraries, classes=[])

    def with_member(self, names, **parts):
        """The caller uses a member of an elder, too, at which a nearer class can get one."""
        held = [(name, index + 1) for index, name in enumerate(names)]
        classes = [("g", None, [("x", 11)]), ("k", "g", [])]
        world = World([("l", [], ["m"], []), ("m", held, [], [])], classes)
        uses = [("member", "k", "x"), *[top(name) for name in names]]
        return View(Caller(world, [("all", "l")], uses=uses), Book(**parts))

    def test_some_classes_grow(self):
        for names in ("ab", "abcde", NAMES):
            one, least = self.with_member(names), [(("spell", 0),), wholes(*range(1, len(names) + 1))]
            for classes in (["g"], ("g", "g"), []):
                self.check(least, one, classes=classes)
                self.check(least, one, libraries=["l"], classes=classes)
                self.check([()], one, libraries=["m"], classes=classes)
            for classes in (None, ["k"], ["g", "k"]):
                self.check([], one, classes=classes)
                self.check([], one, libraries=[], classes=classes)

    def test_spreads_that_all_names_bring(self):
        # Ahead of members, a spread of a library is seen as long as an import of all names reaches the library.
        for names in ("ab", "abcde", NAMES):
            one = self.with_member(names, spreads="spread")
            self.check([(("spell", 0),)], one, classes=[])
            self.check([(("spell", 0),)], one, libraries=["m"], classes=["g"])
            self.check([()], one, **NOTHING)
            self.check([], one)


class TwoNamedTest(Base):
    def test_each_one_used_two_or_three_times(self):
        for first in (2, 3):
            for second in (2, 3):
                one, (zero, other) = two_named(first, second), (("home", 0), ("home", 1))
                uses, others = wholes(*range(first)), wholes(*range(first, first + second))
                order = [zero, other, *uses, *others]
                expect(self, order, moves(one))
                rows = [(zero, other), (zero, *others), (other, *uses), (*uses, *others)]
                rows = sorted(rows, key=lambda row: (len(row), [order.index(move) for move in row]))
                self.check(rows, one)
                self.check(rows, one, libraries=["l"], classes=[])
                self.check([()], one, libraries=["m"])
                self.check([()], one, **NOTHING)

    def two_and_three(self, **grown):
        self.check([
            (("home", 0), ("home", 1)),
            (("home", 1), ("whole", 0), ("whole", 1)),
            (("home", 0), ("whole", 2), ("whole", 3), ("whole", 4)),
            (("whole", 0), ("whole", 1), ("whole", 2), ("whole", 3), ("whole", 4)),
        ], two_named(2, 3), **grown)

    def test_two_and_three_as_they_are_written(self):
        self.two_and_three()
        self.two_and_three(libraries=("l", "m"), classes=())

    def test_a_library_that_gives_on_no_longer_stands_between(self):
        # Under given = both, the import itself can clash, so it is taken home whatever becomes of its uses.
        for first, second in ((2, 2), (3, 2), (3, 3)):
            self.check([(("home", 0), ("home", 1))], two_named(first, second, Book(given="both")))


class SingleTest(Base):
    def test_nothing_grows(self):
        for names in ("ab", "abcdef", NAMES):
            for book in (Book(), Book(given="both"), Book(alls="once"), Book.strict(), Book.late()):
                self.check([()], single(names, book), **NOTHING)
                self.check([()], single(names, book), libraries=(), classes=())

    def test_all_grows(self):
        for names in ("ab", "abcdef", NAMES):
            self.check([()], single(names))
            self.check([()], single(names), libraries=["l", "l"])

    def test_names_of_the_caller_in_the_way(self):
        held = [("a", 1), ("b", 2)]
        world = World([("l", held, [], [])])
        one = View(Caller(world, [("all", "l")], own=[("c", 3)], uses=[top("a"), top("b"), top("c")]), Book(order="all own named"))
        self.check([(("spell", 0),)], one)
        self.check([()], one, libraries=[])


class QuestionsTest(Base):
    """Sets that hang on one question each."""

    def test_marks(self):
        world = World([("l", [("a", 1)], [], [])], [("k", None, [])])
        parts = {"classes": [("h", "k", [("x", 2, False)])], "uses": [top("a")]}
        one = View(Caller(world, [("all", "l")], **parts), Book(marks=True))
        self.check([], one)
        self.check([()], one, classes=[])
        self.check([()], View(one.caller, Book()))

    def test_risks_of_one_import(self):
        world = World([("l", [("a", 1)], ["m", "n"], []), ("m", [], [], []), ("n", [], [], [])])
        one = View(Caller(world, [("all", "l")] * 3, uses=[top("a")]), Book(alls="once"))
        self.check([(("spell", 0), ("spell", 1), ("spell", 2))], one)
        self.check([()], one, libraries=["l", "n"])

    def test_risks_of_two_imports(self):
        world = World([(name, [], [], []) for name in "lmno"])
        imports = [("all", name) for name in "lmno"]
        one = View(Caller(world, imports), Book(alls="once"))
        spells = [("spell", index) for index in range(4)]
        self.check([row for row in combinations(spells, 3)], one)
        self.check([(spells[0],), (spells[2],)], one, libraries=["l", "n"])
        self.check([()], one, libraries=["n"])

    def test_names_that_clash_at_once(self):
        world = World([("l", [("a", 1)], [], []), ("m", [], [], []), ("n", [], ["l"], [])])
        imports = [("all", "l"), ("all", "m"), ("all", "n")]
        one = View(Caller(world, imports, uses=[top("a")]), Book(alls="once"))
        self.check([(("spell", 1),), (("spell", 0), ("spell", 2))], one, libraries=["m"])
        # An addition to n is seen from n alone, and what l has is seen from l; the named import is ahead of n.
        self.check([(("spell", 0),), (("spell", 2),)], one, libraries=["n"])
        self.check([()], View(one.caller, Book(order="all own named", alls="first")), libraries=["n"])

    def test_an_import_that_goes_with_the_last_of_its_users(self):
        # From m, n is reached, and under given = both it clashes with m for the named import of what m has.
        world = World([("l", [], ["m"], []), ("m", [("a", 1)], ["n"], []), ("n", [], [], [])])
        one = View(Caller(world, [("all", "l")], uses=[top("a"), top("a")]), Book(given="both"))
        self.check([], one)
        self.check([], one, libraries=["n"])
        self.check([()], one, libraries=["m"])
        self.check([(("spell", 0),), (("whole", 0), ("whole", 1))], one, libraries=["l"])

    def test_uses_of_one_name(self):
        world = World([("l", [], ["m"], []), ("m", [("a", 1)], [], [])])
        scopes = [("block", None, []), ("block", None, [("a", 2)])]
        uses = [top("a"), ("name", 0, "a"), ("name", 1, "a"), ("name", 0, "a")]
        caller = Caller(world, [("all", "l"), ("all", "l")], scopes=scopes, uses=uses)
        self.check([(("spell", 0),), (("spell", 1),), wholes(0, 1, 3)], View(caller, Book()))
        self.check([(("spell", 1),), wholes(0, 1, 3)], View(caller, Book(alls="last")))
        level = View(caller, Book(order="own=named=all"))
        self.check([(("spell", 0), ("spell", 1)), wholes(0, 1, 3)], level)

    def test_uses_of_libraries(self):
        world = World([("l", [], ["m"], []), ("m", [("a", 1), ("b", 2)], [], [])])
        uses = [("of", "l", "a"), ("of", "m", "b"), ("of", "l", "b"), ("of", "l", "a")]
        one = View(Caller(world, [("whole", "l"), ("whole", "m")], uses=uses), Book())
        self.check([wholes(0, 2, 3)], one)
        self.check([()], one, libraries=["m"])
        self.check([wholes(0, 2, 3)], View(one.caller, Book(given="both")))


class DrawnTest(Base):
    def by_trying(self, one, **grown):
        """All good sets without a good part, by what moved leads to."""
        results, rows, good = one.results(), moves(one), []
        for many in range(len(rows) + 1):
            for chosen in combinations(rows, many):
                if not any(set(part) <= set(chosen) for part in good):
                    later = moved(one, list(chosen))
                    if later.results() == results and is_safe(later, **grown):
                        good.append(chosen)
        return good

    def test_callers_with_many_moves(self):
        draw, told = random.Random(162), {}
        for number, words in enumerate(FIXED):
            for one in moving_views(170, 163 + number, **words):
                names = one.caller.world.library_names()
                some = [{"classes": []}, {"libraries": names[:1], "classes": []}, NOTHING, draw_growing(draw, one.caller.world)]
                grown = draw.choice([{}, {}, *some])
                found = least_moves(one, **grown)
                kind = number, "none" if not found else "empty" if found == [()] else min(len(found), 3)
                told[kind] = told.get(kind, 0) + 1
                # Trying takes long, so that only some callers of each kind are looked at.
                if told[kind] <= 5:
                    expect(self, self.by_trying(one, **grown), found)
                    self.check_sets(found, one, draws=2, **grown)
        for number in range(len(FIXED)):
            self.assertGreater(min(told[number, kind] for kind in ("none", "empty", 1, 2)), 4, told)
        self.assertGreater(sum(told.get((number, 3), 0) for number in range(len(FIXED))), 6, told)


class ErrorsTest(unittest.TestCase):
    def test_the_order_of_the_errors(self):
        one = given_on(NAMES)
        wrong = View(one.caller.with_uses([*one.caller.uses, top("z")]), Book())
        many = View(Caller(one.caller.world, [("all", "l"), ("all", "m")], uses=one.caller.uses), Book())
        both = View(many.caller.with_uses([*many.caller.uses, top("z")]), Book())
        self.assertEqual(len(moves(many)), 9)
        for view in (one, wrong, many, both):
            expect_error(self, "UnknownName", "z", least_moves, view, libraries=["l", "z", None], classes=[None])
            expect_error(self, "UnknownName", "l", least_moves, view, libraries=["l"], classes=["l", None])
        for view in (wrong, both):
            expect_error(self, "NotRight", [("use", 7)], least_moves, view)
            expect_error(self, "NotRight", [("use", 7)], least_moves, view, **NOTHING)
        for grown in ({}, NOTHING, {"libraries": ["m"]}):
            expect_error(self, "TooMany", 8, least_moves, many, **grown)
        with self.assertRaises(TooMany):
            least_moves(view=many, classes=(), libraries=())


class EffortTest(unittest.TestCase):
    """Not each of the 256 sets of eight moves is looked at, only those on the way to the least ones."""

    def check(self, most, one, **grown):
        sets, answers = looked_at(one, **grown)
        self.assertLessEqual(sets, most)
        # Each use is looked at with and without the move that keeps it as it is.
        self.assertLessEqual(answers, 2 * len(one.caller))

    def test_names_that_are_given_on(self):
        for many in range(8):
            self.check(many + 2, given_on(NAMES[:many]))

    def test_a_single_library(self):
        for names in ("abcdef", NAMES):
            self.check(1, single(names))
            self.check(1, single(names), **NOTHING)

    def test_two_named_imports(self):
        for first in (2, 3):
            for second in (2, 3):
                self.check((first + 2) * (second + 2), two_named(first, second))

    def test_a_set_is_not_made_to_be_looked_at(self):
        with patch("addednames.moves._behind_moves", side_effect=AssertionError("made")):
            expect(self, every(NAMES), least_moves(given_on(NAMES)))

    def test_imports_that_clash_at_once(self):
        world = World([("l", [], ["m", "n"], []), ("m", [], [], []), ("n", [], [], [])])
        one = View(Caller(world, [("all", "l")] * 8), Book(alls="once"))
        expect(self, [tuple(("spell", index) for index in range(8))], least_moves(one))
        self.assertLessEqual(looked_at(one)[0], 9)


if __name__ == "__main__":
    unittest.main()
