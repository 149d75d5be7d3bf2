import unittest
from itertools import product

from addednames.books import ORDERS, Book, all_books
from support import STRANGE, Greedy, Touchy, expect, expect_error, same

ANY = (*STRANGE, Greedy(), Touchy(), 1, "own named", "Own", "own named all ", "own  named all", "named=own all")
RANKS = {
    "own=named=all": (0, 0, 0),
    "own=named all": (0, 0, 1),
    "own=all named": (0, 1, 0),
    "own named=all": (0, 1, 1),
    "own named all": (0, 1, 2),
    "own all named": (0, 2, 1),
    "named=all own": (1, 0, 0),
    "named own=all": (1, 0, 1),
    "named own all": (1, 0, 2),
    "all own=named": (1, 1, 0),
    "all own named": (1, 2, 0),
    "named all own": (2, 0, 1),
    "all named own": (2, 1, 0),
}
VALUES = {
    "order": list(RANKS),
    "given": ["own", "both"],
    "alls": ["use", "once", "first", "last"],
    "bodies": ["ahead", "behind", "never"],
    "spreads": ["member", "spread", "tie"],
    "near": [True, False],
    "marks": [True, False],
}
DEFAULTS = ["own named all", "own", "use", "ahead", "member", True, False]


def values(book):
    return [book[part] for part in VALUES]


def properties(book):
    return [book.order, book.given, book.alls, book.bodies, book.spreads, book.near, book.marks]


def wrong_values(part):
    found = [*ANY, *[value for other in VALUES for value in VALUES[other]]]
    return [value for value in found if not any(same(value, right) for right in VALUES[part])]


class BookTest(unittest.TestCase):
    def test_orders(self):
        expect(self, tuple(RANKS), ORDERS)

    def test_known_books(self):
        for book in [Book(), Book.plain()]:
            expect(self, DEFAULTS, values(book))
            expect(self, DEFAULTS, properties(book))
        strict = ["own=named=all", "both", "once", "never", "tie", False, True]
        expect(self, strict, values(Book.strict()))
        expect(self, strict, properties(Book.strict()))
        late = ["all named own", "own", "last", "behind", "spread", True, False]
        expect(self, late, values(Book.late()))
        expect(self, late, properties(Book.late()))

    def test_each_value_of_each_part(self):
        for index, part in enumerate(VALUES):
            for value in VALUES[part]:
                told = [*DEFAULTS[:index], value, *DEFAULTS[index + 1:]]
                for book in [Book(**{part: value}), Book().changed(part, value), Book.plain().changed(part, value)]:
                    expect(self, told, values(book))
                    expect(self, told, properties(book))

    def test_by_name_only(self):
        with self.assertRaises(TypeError):
            Book("own named all")

    def test_wrong_values(self):
        for part in VALUES:
            for value in wrong_values(part):
                expect_error(self, "BadPart", part, Book, **{part: value})

    def test_one_and_zero_are_no_truths(self):
        for value in [0, 1]:
            expect_error(self, "BadPart", "near", Book, near=value)
            expect_error(self, "BadPart", "marks", Book, marks=value)
            expect_error(self, "BadPart", "near", Book().changed, "near", value)
            expect_error(self, "BadPart", "marks", Book().changed, "marks", value)

    def test_the_first_wrong_part_counts(self):
        parts = list(VALUES)
        for index, part in enumerate(parts):
            wrong = {other: None for other in reversed(parts[index:])}
            expect_error(self, "BadPart", part, Book, **wrong)
            expect_error(self, "BadPart", part, Book, **{part: None, parts[-1]: None})

    def test_items_of_other_values(self):
        for value in [*ANY, "own", "named", "all", "ORDER", "rank", 0]:
            expect_error(self, "BadPart", value, lambda: Book()[value])

    def test_a_book_is_not_iterated(self):
        with self.assertRaises(TypeError):
            iter(Book())


class RankTest(unittest.TestCase):
    def test_each_group_under_each_order(self):
        for order, ranks in RANKS.items():
            book = Book(order=order)
            expect(self, ranks, (book.rank("own"), book.rank("named"), book.rank(group="all")))

    def test_other_values(self):
        for value in [*ANY, "order", "ownnamed", "al", "own=named"]:
            expect_error(self, "BadPart", value, Book().rank, value)
            expect_error(self, "BadPart", value, Book(order="own=named=all").rank, value)


class ChangedTest(unittest.TestCase):
    def test_the_other_parts_stay(self):
        for book in [Book.strict(), Book.late()]:
            told = values(book)
            for index, part in enumerate(VALUES):
                for value in VALUES[part]:
                    changed = book.changed(value=value, part=part)
                    expect(self, [*told[:index], value, *told[index + 1:]], values(changed))
                    self.assertIs(changed == book, value == told[index])
            expect(self, told, values(book))

    def test_other_parts(self):
        for value in [*ANY, "own", "named", "all"]:
            for other in ["own", True, None]:
                expect_error(self, "BadPart", value, Book().changed, value, other)

    def test_other_values(self):
        for part in VALUES:
            for value in wrong_values(part):
                expect_error(self, "BadPart", part, Book().changed, part, value)


class EqualTest(unittest.TestCase):
    def test_equal_if_all_parts_are(self):
        self.assertIs(Book() == Book.plain(), True)
        self.assertIs(Book() != Book.plain(), False)
        self.assertIs(Book.strict() == Book.late(), False)
        for index, part in enumerate(VALUES):
            for value in VALUES[part]:
                self.assertIs(Book() == Book(**{part: value}), value == DEFAULTS[index], (part, value))

    def test_other_classes(self):
        for value in [*STRANGE, Greedy(), 1, tuple(DEFAULTS), dict(zip(VALUES, DEFAULTS))]:
            self.assertIs(Book() == value, False)
            self.assertIs(Book() != value, True)


class AllBooksTest(unittest.TestCase):
    def test_the_number_and_the_order(self):
        books = list(all_books())
        expect(self, 3744, len(books))
        expect(self, [list(row) for row in product(*VALUES.values())], [values(book) for book in books])
        self.assertTrue(all(isinstance(book, Book) for book in books))

    def test_the_first_ones_and_the_last_one(self):
        books = list(all_books())
        first = ["own=named=all", "own", "use", "ahead", "member"]
        expect(self, [*first, True, True], values(books[0]))
        expect(self, [*first, True, False], values(books[1]))
        expect(self, [*first, False, True], values(books[2]))
        expect(self, [*first, False, False], values(books[3]))
        expect(self, [*first[:4], "spread", True, True], values(books[4]))
        expect(self, ["all named own", "both", "last", "never", "tie", False, False], values(books[-1]))

    def test_a_generator(self):
        books = all_books()
        self.assertIs(iter(books), books)
        self.assertEqual(values(next(books)), values(list(all_books())[0]))


if __name__ == "__main__":
    unittest.main()
