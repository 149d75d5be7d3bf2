import random
import unittest

import model
from addednames.additions import Addition
from addednames.books import ORDERS, Book
from addednames.callers import Caller
from addednames.cases import can, case, labels, table
from addednames.effects import effect
from addednames.problems import is_right
from addednames.reasons import is_part, reason
from addednames.touching import touching
from addednames.views import View
from addednames.worlds import World
from chance import all_additions, draw_book, right_views, views
from support import expect, expect_error


def world():
    return World(
        [("l", [("a", 1)], ["m"], []), ("m", [("b", 2)], [], [])],
        [("g", None, [("x", 3)]), ("k", "g", [("y", 4)])],
    )


IMPORTS = [("all", "l"), ("named", "l", "a", "c"), ("whole", "m"), ("all", "l"), ("whole", "l")]
OWN = [("a", 11), ("b", 12), ("c", 13)]
CLASSES = [("h", "k", [("y", 14, True), ("z", 15, False)]), ("i", "h", [("z", 16, True)]), ("j", None, [])]
SCOPES = [
    ("block", None, [("a", 17), ("b", 18), ("c", 19)]),
    ("body", 0, "i"),
    ("block", 1, [("a", 20)]),
    ("body", 2, "h"),
    ("block", 0, [("b", 21)]),
]
USES = [("name", 3, "a"), ("name", 4, "b"), ("name", None, "c"), ("member", "i", "z"), ("of", "m", "b"), ("name", 1, "a")]


def full(**changed):
    parts = {"imports": IMPORTS, "own": OWN, "classes": CLASSES, "scopes": SCOPES, "uses": USES, **changed}
    return Caller(world(), **parts)


class IsPartTest(unittest.TestCase):
    def check(self, wanted, imports=(), other=None, **parts):
        caller, part = full() if other is None else other, Caller(world(), imports, **parts)
        expect(self, wanted, is_part(part, caller))
        expect(self, wanted, is_part(caller=caller, part=part))

    def test_without_a_use(self):
        self.check(True)
        expect(self, True, is_part(full(scopes=(), uses=()), full()))
        expect(self, False, is_part(full(uses=()), full()))
        expect(self, False, is_part(full(), full()))
        expect(self, True, is_part(Caller(World()), Caller(World(), own=[("a", 1)])))

    def test_worlds(self):
        for other in [World(), World([("l", [("a", 1)], ["m"], []), ("m", [("b", 2)], [], [])])]:
            expect(self, False, is_part(Caller(other), full()))
            expect(self, False, is_part(Caller(world()), Caller(other)))
        expect(self, False, is_part(full(scopes=(), uses=()) + Addition(("name", "m", "z"), 99), full()))

    def test_imports(self):
        for imports in [IMPORTS, IMPORTS[1:], IMPORTS[::2], IMPORTS[:1], [IMPORTS[0], IMPORTS[3]], IMPORTS[3:]]:
            self.check(True, imports)
        self.check(False, IMPORTS[::-1])
        self.check(False, [IMPORTS[1], IMPORTS[0], IMPORTS[2]])
        self.check(False, [IMPORTS[0]] * 3)
        self.check(False, [IMPORTS[1]] * 2)
        self.check(False, [("all", "m")])
        self.check(False, [("named", "l", "a", "a")])
        self.check(False, [("named", "l", "b", "c")])
        self.check(False, [("named", "m", "a", "c")])
        self.check(False, [*IMPORTS, ("all", "l")])

    def test_own_names(self):
        for own in [OWN, OWN[1:], OWN[::2], OWN[2:]]:
            self.check(True, own=own)
        self.check(False, own=OWN[::-1])
        self.check(False, own=[("a", 99)])
        self.check(False, own=[("d", 11)])
        self.check(False, own=[*OWN, ("d", 99)])

    def test_own_classes(self):
        for classes in [
            CLASSES,
            CLASSES[:1],
            CLASSES[:2],
            CLASSES[2:],
            [CLASSES[0], CLASSES[2]],
            [("h", "k", [])],
            [("h", "k", [("y", 14, True)])],
            [("h", "k", [("z", 15, False)]), ("i", "h", [])],
        ]:
            self.check(True, classes=classes)
        for classes in [
            CLASSES[::2][::-1],
            [("h", "g", CLASSES[0][2])],
            [("h", None, [])],
            [("h", "k", CLASSES[0][2][::-1])],
            [("h", "k", [("y", 14, False)])],
            [("h", "k", [("y", 99, True)])],
            [("h", "k", [("x", 14, True)])],
            [("h", "k", [*CLASSES[0][2], ("x", 99, True)])],
            [("q", "k", [])],
            [("i", "k", [])],
            [("h", "k", []), ("j", "h", [])],
            [*CLASSES, ("q", None, [])],
        ]:
            self.check(False, classes=classes)

    def test_uses_outside(self):
        for use in [("name", None, "c"), ("name", None, "a"), ("name", None, "b"), ("member", "k", "q")]:
            self.check(use[0] == "name", uses=[use])
        self.check(True, classes=CLASSES[:2], uses=[("member", "i", "z")])
        self.check(True, [("whole", "m")], uses=[("of", "m", "b")])
        self.check(False, [("whole", "l")], uses=[("of", "l", "b")])
        self.check(False, [("whole", "m")], uses=[("of", "m", "a")])
        self.check(False, classes=CLASSES[:2], uses=[("member", "h", "z")])
        self.check(False, classes=CLASSES[:2], uses=[("member", "i", "y")])
        self.check(False, uses=[("name", None, "z")])
        self.check(False, uses=[("name", None, "c"), ("name", None, "a")])
        self.check(False, uses=[("name", None, "c"), ("name", None, "c")])

    def test_scopes_around_the_use(self):
        classes, body, inner = CLASSES[:2], ("body", None, "i"), ("body", None, "h")
        first, second = ("block", None, [("a", 17)]), ("block", None, [("a", 20)])
        for rows in [
            [],
            [first],
            [("block", None, [])],
            [("block", None, [("b", 18)])],
            [SCOPES[0]],
            [second],
            [body],
            [inner],
            [first, second],
            [first, body],
            [body, second, inner],
            [second, inner],
            [("block", None, []), ("block", None, [])],
            SCOPES[:4],
            [SCOPES[0], body, ("block", None, []), inner],
        ]:
            self.check_scopes(True, classes, rows)
        for rows in [
            [second, first],
            [second, body],
            [inner, body],
            [inner, ("block", None, [])],
            [body, body],
            [("body", None, "j")],
            [("block", None, [("b", 21)])],
            [("block", None, [("a", 99)])],
            [("block", None, [("d", 17)])],
            [("block", None, [("b", 18), ("a", 17)])],
            [("block", None, [("a", 17), ("b", 21)])],
            [("block", None, []), ("block", None, []), ("block", None, [])],
            [("body", None, "h"), second],
        ]:
            self.check_scopes(False, CLASSES, rows)

    def check_scopes(self, wanted, classes, rows):
        """Whether rows of scopes, each in the one before, with a use of a in the last one, make a part."""
        scopes = [(kind, at - 1 if at else None, held) for at, (kind, _, held) in enumerate(rows)]
        self.check(wanted, classes=classes, scopes=scopes, uses=[("name", len(rows) - 1 if rows else None, "a")])

    def test_bodies_of_other_classes(self):
        classes = [("h", None, []), ("hi", None, []), ("ahi", None, [])]
        other = Caller(world(), classes=classes, scopes=[("body", None, "ahi")], uses=[("name", 0, "a")])
        for name, wanted in [("ahi", True), ("h", False), ("hi", False)]:
            self.check(wanted, other=other, classes=classes, scopes=[("body", None, name)], uses=[("name", 0, "a")])

    def test_scopes_of_another_use(self):
        self.check(True, scopes=[("block", None, [("c", 19)]), ("block", 0, [("b", 21)])], uses=[("name", 1, "b")])
        self.check(False, scopes=[("block", None, [("c", 19)]), ("block", 0, [("b", 21)])], uses=[("name", 1, "a")])
        self.check(False, scopes=[("block", None, [("a", 20)])], uses=[("name", 0, "b")])
        self.check(False, scopes=[("block", None, [])], uses=[("name", 0, "c")])
        # Of two uses of one name, one alone has this scope around it.
        self.check(True, scopes=[("block", None, [("a", 20)])], uses=[("name", 0, "a")])

    def test_places_of_scopes_and_uses(self):
        block = ("block", None, [])
        self.check(True, scopes=[block, ("block", 0, [])], uses=[("name", 1, "a")])
        self.check(False, scopes=[block, ("block", 0, [])], uses=[("name", 0, "a")])
        self.check(False, scopes=[block, ("block", 0, [])], uses=[("name", None, "a")])
        self.check(False, scopes=[block], uses=[("name", None, "a")])
        self.check(False, scopes=[block, block], uses=[("name", 1, "a")])
        self.check(False, scopes=[block])
        self.check(False, classes=CLASSES[:2], scopes=[block], uses=[("member", "i", "z")])
        self.check(False, [("whole", "m")], scopes=[block], uses=[("of", "m", "b")])
        body = [("block", None, []), ("body", 0, "i"), ("body", 0, "h")]
        self.check(False, classes=CLASSES, scopes=body, uses=[("name", 2, "a")])

    def test_itself(self):
        for use in USES[2:5]:
            caller = Caller(world(), IMPORTS, own=OWN, classes=CLASSES, uses=[use])
            expect(self, True, is_part(caller, caller))
            expect(self, True, is_part(caller, full()))
        one = Caller(world(), classes=CLASSES, scopes=SCOPES[:4], uses=USES[:1])
        expect(self, True, is_part(one, one))
        expect(self, True, is_part(one, full()))
        expect(self, False, is_part(full(), one))


class ReasonTest(unittest.TestCase):
    def check(self, view, addition):
        """A reason keeps all that the document tells of it; returns its label."""
        word, before = effect(view, addition), (view.caller, view.book)
        label, part = reason(view, addition)
        again, other = reason(addition=addition, view=view)
        expect(self, label, again)
        self.assertTrue(part == other)
        self.assertTrue(before == (view.caller, view.book))
        self.assertIn(label, labels())
        self.assertTrue(is_part(part, view.caller))
        self.assertLessEqual(len(part.imports), 2)
        piece = View(part, view.book)
        self.assertTrue(is_right(piece))
        expect(self, word, effect(piece, addition))
        expect(self, case(label)[1].kind, addition.kind)
        expect(self, word, dict(table(view.book))[label])
        expect(self, label[0] not in ("mark", "once", "import"), len(part) == 1)
        self.check_label(piece, addition, label)
        return label

    def check_label(self, piece, addition, label):
        found, added, how = label
        if found == "mark":
            self.assertEqual(model.wrongs(View(piece.caller + addition, piece.book))[0][0], "mark")
        elif found in ("once", "import"):
            self.check_how(piece, addition, found, how)
        else:
            later = View(piece.caller + addition, piece.book)
            use = piece.caller.uses[0]
            old = [spot for spot, _ in model.front(piece, use) if spot[0] == found]
            new = [spot for spot, thing in model.front(later, use) if thing == addition.thing and spot[0] == added]
            self.assertIn(how, [self.how(piece, use, one, other) for one in old for other in new])

    def how(self, piece, use, one, other):
        """How spot other stands to spot one, which tells what was found."""
        kinds, world, imports = (one[0], other[0]), piece.caller.world, piece.caller.imports
        if kinds == ("elder", "elder"):
            return "nearer" if model.ahead(piece.book, other, one) else "wrong"
        if kinds == ("member", "member"):
            return "nearer" if other[1] < one[1] else "wrong"
        if kinds == ("spread", "spread"):
            return "level" if one[2] == other[2] else "nearer" if other[2] < one[2] else "farther"
        if kinds == ("of", "of"):
            return self.stands(world, use[1], other[1], one[1])
        if kinds in (("all", "all"), ("named", "named")) and one[1] == other[1]:
            return self.stands(world, imports[one[1]][1], other[2], one[2])
        if kinds == ("all", "all"):
            return "earlier" if other[1] < one[1] else "later"
        return "other" if kinds == ("named", "named") else ""

    def stands(self, world, library, one, other):
        if model.cut_off(world, library, one, other):
            return "ahead"
        return "behind" if model.cut_off(world, library, other, one) else "beside"

    def check_how(self, piece, addition, found, how):
        world, book, added = piece.caller.world, piece.book, addition.place[1]
        later = world + addition
        wanted = []
        for entry in piece.caller.imports:
            name = entry[2] if entry[0] == "named" else addition.name
            old = model.seen_from(world, book, entry[1], name)
            if entry[0] == {"once": "all", "import": "named"}[found]:
                both = len(model.seen_from(later, book, entry[1], name)) > 1
                self.assertFalse(both and how == "other")
                wanted.extend(self.stands(world, entry[1], added, one) for one in old if both)
        expect(self, [("once", addition.name) if found == "once" else ("import", 0)], model.wrongs(View(
            piece.caller + addition, book
        )))
        if how != "other":
            self.assertIn(how, wanted)

    def test_cases(self):
        # Each label but those ahead of which a named import clashes is the reason of its own case under some book.
        told = set()
        for label in labels():
            caller, addition = case(label)
            for book in [*books(), Book(), Book.strict(), Book.late()]:
                view = View(caller, book)
                if is_right(view) and effect(view, addition) != "stays":
                    told.add(self.check(view, addition))
        clashing = {("named", "named", "beside"), ("named", "named", "behind")}
        self.assertEqual(told | clashing, set(labels()))

    def test_views_at_random(self):
        told, words = set(), set()
        for view in right_views(500, 41):
            for addition in all_additions(view, "ab"):
                if effect(view, addition) != "stays":
                    told.add(self.check(view, addition))
                    words.add((addition.kind, effect(view, addition)))
        self.assertGreater(len(told), 25)
        self.assertEqual(len(words), 6)

    def test_names_that_are_not_told_by_the_library_of_the_addition(self):
        # The whole caller has more imports, scopes and own names than a part needs.
        libraries = [("l", [], ["m"], []), ("m", [("a", 1)], [], []), ("n", [], [], []), ("o", [("b", 2)], [], [])]
        caller = Caller(
            World(libraries, [("k", None, [])]),
            [("all", "o"), ("all", "l"), ("named", "m", "a", "b"), ("all", "n"), ("all", "m"), ("whole", "l")],
            own=[("c", 11)],
            classes=[("h", "k", [("q", 12, False)])],
            scopes=[("block", None, [("d", 13)]), ("body", 0, "h")],
            uses=[("name", 1, "c"), ("name", 1, "a"), ("of", "l", "a")],
        )
        for book in [Book(), Book(alls="last"), Book(alls="first"), Book(alls="once")]:
            for place, word in touching(View(caller, book)):
                addition = Addition(place, 99)
                self.check(View(caller, book), addition)
                expect(self, word, effect(View(caller, book), addition))

    def test_not_touched(self):
        for view in right_views(60, 42):
            for addition in all_additions(view):
                if effect(view, addition) == "stays":
                    expect_error(self, "NotTouched", addition, reason, view, addition)

    def test_errors_of_the_addition(self):
        view = View(Caller(world(), IMPORTS[:2], own=OWN[:1], uses=[("name", None, "c")]), Book())
        for name, value, addition in [
            ("UnknownName", "z", Addition(("name", "z", "a"), 1)),
            ("UnknownName", "h", Addition(("spread", "l", "h", "a"), 1)),
            ("AlreadyThere", ("name", "l", "a"), Addition(("name", "l", "a"), 1)),
            ("BadThing", 2, Addition(("name", "l", "b"), 2)),
            ("BadThing", 11, Addition(("name", "l", "b"), 11)),
        ]:
            expect_error(self, name, value, reason, view, addition)
            wrong = View(view.caller.with_uses([("name", None, "z")]), Book())
            expect_error(self, "NotRight", [("use", 0)], reason, wrong, addition)
            expect_error(self, "NotRight", [("use", 0)], reason, wrong, Addition(("name", "l", "z"), 99))


def books():
    """Books in which all words occur beside most others."""
    draw = random.Random(43)
    return [draw_book(draw, order=order, marks=marks) for order in ORDERS for marks in (True, False) for _ in range(6)]


class TwoSourcesTest(unittest.TestCase):
    def test_what_a_book_cannot_do_does_not_occur(self):
        for view in right_views(150, 44):
            for addition in all_additions(view, "ab"):
                word = effect(view, addition)
                if word != "stays":
                    self.assertIsNotNone(can(view.book, addition.kind, word))

    def test_parts_of_callers_that_are_not_right(self):
        for view in views(100, 45):
            caller = view.caller
            part = Caller(caller.world, caller.imports[1:], own=caller.own[:1], uses=[])
            expect(self, True, is_part(part, caller))


if __name__ == "__main__":
    unittest.main()
