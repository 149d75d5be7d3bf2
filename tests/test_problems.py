import unittest

import model
from addednames.books import Book
from addednames.callers import Caller
from addednames.problems import at_once, is_right, problems
from addednames.views import View
from addednames.worlds import World
from chance import right_views, views
from support import STRANGE, Greedy, Touchy, expect, expect_error

ANY = (*STRANGE, Greedy(), Touchy(), "z", "k", 1, ["l"], ("l",))


def world():
    """l gives on m and n, which both have a; m has b over the b of o; classes g and k."""
    return World(
        [
            ("l", [("c", 1)], ["m", "n"], []),
            ("m", [("a", 2), ("b", 3)], ["o"], []),
            ("n", [("a", 4)], [], []),
            ("o", [("b", 5), ("d", 6)], [], []),
        ],
        [("g", None, [("x", 7)]), ("k", "g", [("y", 8)])],
    )


class ProblemsTest(unittest.TestCase):
    def check(self, wanted, imports=(), book=None, **parts):
        view = View(Caller(world(), imports, **parts), Book() if book is None else book)
        expect(self, wanted, problems(view))
        expect(self, wanted, problems(view=view))
        expect(self, wanted == [], is_right(view))
        expect(self, wanted == [], is_right(view=view))
        problems(view).append(0)
        expect(self, wanted, problems(view))

    def test_none(self):
        self.check([])
        self.check([], book=Book.strict())

    def test_imports(self):
        imports = [
            ("all", "l"),
            ("named", "l", "a", "e"),
            ("named", "m", "a", "e"),
            ("named", "l", "z", "a"),
            ("whole", "l"),
            ("named", "m", "b", "f"),
            ("named", "n", "b", "g"),
            ("named", "l", "d", "h"),
        ]
        self.check([("import", 1), ("import", 3), ("import", 6)], imports)
        both = Book(given="both")
        self.check([("import", 1), ("import", 3), ("import", 5), ("import", 6)], imports, book=both)

    def test_once(self):
        once = Book(alls="once")
        self.check([("once", "a")], [("all", "l")], book=once)
        self.check([], [("all", "m")], book=once)
        self.check([("once", "b")], [("all", "m")], book=Book(alls="once", given="both"))
        self.check([("once", "b")], [("all", "m"), ("all", "o")], book=once)
        self.check([("once", "a"), ("once", "b")], [("all", "o"), ("all", "l")], book=once)
        self.check([("once", "a")], [("all", "m"), ("all", "n")], book=once)
        self.check([], [("all", "o"), ("all", "n")], book=once)
        self.check([], [("all", "m"), ("named", "n", "a", "a"), ("whole", "n")], book=once)
        for alls in ("use", "first", "last"):
            self.check([], [("all", "o"), ("all", "l")], book=Book(alls=alls))

    def test_marks(self):
        classes = [
            ("h", "k", [("x", 11, False), ("y", 12, True), ("z", 13, True), ("w", 14, False)]),
            ("i", "h", [("w", 15, False), ("z", 16, True), ("x", 17, True), ("v", 18, True)]),
            ("j", None, [("x", 19, True), ("y", 20, False)]),
        ]
        wanted = [("mark", "h", "x"), ("mark", "h", "z"), ("mark", "i", "w"), ("mark", "i", "v"), ("mark", "j", "x")]
        self.check(wanted, book=Book(marks=True), classes=classes)
        self.check([], book=Book(marks=False), classes=classes)

    def test_uses(self):
        uses = [("name", None, "a"), ("name", None, "c"), ("name", None, "z"), ("member", "k", "x"), ("member", "g", "y")]
        imports = [("all", "l"), ("whole", "l")]
        self.check([("use", 0), ("use", 2), ("use", 4)], imports, uses=uses)
        self.check([("use", 1)], imports, uses=[("of", "l", "b"), ("of", "l", "a"), ("of", "l", "c")])
        uses = [("of", "l", "b"), ("of", "l", "a"), ("of", "l", "y")]
        self.check([("use", 0), ("use", 1), ("use", 2)], imports, book=Book(given="both"), uses=uses)

    def test_all_together(self):
        imports = [("all", "l"), ("named", "l", "a", "e"), ("named", "l", "z", "e"), ("all", "o")]
        classes = [("h", "k", [("y", 11, False), ("w", 12, True)])]
        uses = [("name", None, "e"), ("member", "h", "w"), ("name", None, "b")]
        wanted = [
            ("import", 1),
            ("import", 2),
            ("once", "a"),
            ("once", "b"),
            ("mark", "h", "y"),
            ("mark", "h", "w"),
            ("use", 0),
            ("use", 2),
        ]
        book = Book(alls="once", marks=True)
        self.check(wanted, imports, book=book, classes=classes, uses=uses)
        wanted = wanted[:2] + wanted[4:]
        self.check(wanted, imports, book=book.changed("alls", "use"), classes=classes, uses=uses)

    def test_views_at_random(self):
        kinds = set()
        for view in views(1500, 21):
            found = problems(view)
            expect(self, model.wrongs(view), found)
            expect(self, found == [], is_right(view))
            kinds |= {row[0] for row in found}
        self.assertEqual(kinds, {"import", "once", "mark", "use"})
        for view in right_views(200, 22):
            expect(self, [], model.wrongs(view))
            expect(self, True, is_right(view))


class AtOnceTest(unittest.TestCase):
    def check(self, wanted, libraries, name, book=None):
        book = Book() if book is None else book
        expect(self, wanted, at_once(world(), book, libraries, name))
        expect(self, wanted, at_once(world(), book, tuple(libraries), name))
        expect(self, wanted, at_once(name=name, libraries=libraries, book=book, world=world()))

    def test_things(self):
        both = Book(given="both")
        self.check([], [], "a")
        self.check([2, 4], ["l"], "a")
        self.check([2], ["m"], "a")
        self.check([2, 4], ["n", "m"], "a")
        self.check([3], ["l"], "b")
        self.check([3, 5], ["l"], "b", both)
        self.check([3, 5], ["o", "l"], "b")
        self.check([3, 5], ["o", "m", "l"], "b", both)
        self.check([], ["o", "l"], "z")
        self.check([], ["n"], "c", both)

    def test_libraries_named_twice(self):
        self.check([2, 4], ["l", "l"], "a")
        self.check([2, 4], ["n", "m", "n", "m", "l"], "a")
        self.check([6], ["o", "o"], "d")

    def test_the_book_need_not_be_one_of_once(self):
        for alls in ("use", "once", "first", "last"):
            self.check([2, 4], ["l"], "a", Book(alls=alls))

    def test_unknown_libraries(self):
        for value in ANY:
            for libraries in [[value], ["l", value], ["l", value, None], ["l", value, "zz"], (value, "l")]:
                expect_error(self, "UnknownName", value, at_once, world(), Book(), libraries, "a")
            expect_error(self, "UnknownName", value, at_once, World(), Book(), [value, "l"], "a")

    def test_arguments_are_not_changed(self):
        libraries = ["n", "m", "n"]
        at_once(world(), Book(), libraries, "a").clear()
        expect(self, ["n", "m", "n"], libraries)
        self.check([2, 4], libraries, "a")


if __name__ == "__main__":
    unittest.main()
