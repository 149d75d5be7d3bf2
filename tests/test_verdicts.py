import random
import unittest

from addednames.books import Book, all_books
from addednames.cases import labels, table
from addednames.verdicts import Verdicts, apart, least_books
from chance import draw_book
from support import STRANGE, Greedy, Touchy, expect, expect_error

LABEL = ("scope", "elder", "")
NO_LABELS = (
    *STRANGE,
    Greedy(),
    Touchy(),
    list(LABEL),
    LABEL[:2],
    (*LABEL, ""),
    ("elder", "scope", ""),
    ("scope", "elder", None),
    ("scope", "elder", "nearer"),
    ("scope", "elder", Greedy()),
    ("scope", ["elder"], ""),
    "scope elder",
)


def touching_labels(book):
    return [label for label, word in table(book) if word in ("changes", "breaks")]


class VerdictsTest(unittest.TestCase):
    def test_words_of_labels(self):
        for book in [Book(), Book.strict(), Book.late(), Book(bodies="never", marks=True)]:
            verdicts = Verdicts(book)
            self.assertTrue(verdicts.book == book)
            told = dict(table(book))
            for label in labels():
                expect(self, told[label], verdicts[label])
                expect(self, told[label] in ("changes", "breaks"), label in verdicts)
                expect(self, told[label] not in ("changes", "breaks"), label not in verdicts)
            expect(self, len(touching_labels(book)), len(verdicts))
        expect(self, None, Verdicts(Book.strict())[("elder", "all", "")])
        expect(self, "stays", Verdicts(Book())[("elder", "all", "")])
        expect(self, "changes", Verdicts(book=Book())[LABEL])
        self.assertFalse(LABEL in Verdicts(Book(bodies="behind")))

    def test_values_that_are_no_labels(self):
        verdicts = Verdicts(Book())
        for value in NO_LABELS:
            expect_error(self, "UnknownCase", value, lambda: verdicts[value])
            expect(self, False, value in verdicts)

    def test_no_iteration(self):
        for call in (list, tuple, iter, sorted):
            with self.assertRaises(TypeError):
                call(Verdicts(Book()))
        with self.assertRaises(TypeError):
            for _ in Verdicts(Book()):
                pass

    def test_nothing_changes(self):
        verdicts = Verdicts(Book())
        with self.assertRaises(TypeError):
            verdicts[LABEL] = "stays"
        with self.assertRaises(AttributeError):
            verdicts.book = Book.late()


class OrderTest(unittest.TestCase):
    def check(self, one, other):
        first, second = Verdicts(one), Verdicts(other)
        few, many = set(touching_labels(one)), set(touching_labels(other))
        expect(self, few <= many, first <= second)
        expect(self, few < many, first < second)
        expect(self, few >= many, first >= second)
        expect(self, few > many, first > second)
        expect(self, table(one) == table(other), first == second)
        expect(self, table(one) != table(other), first != second)
        wanted = [label for label in labels() if label in few and label not in many]
        expect(self, wanted[0] if wanted else None, apart(one, other))
        return few <= many, few >= many, table(one) == table(other)

    def test_books_at_random(self):
        draw, told = random.Random(91), set()
        for _ in range(1500):
            one = draw_book(draw)
            part = draw.choice(("order", "given", "alls", "bodies", "spreads", "near", "marks"))
            other = draw.choice((draw_book(draw), one.changed(part, draw_book(draw)[part])))
            told.add(self.check(one, other))
        wanted = {(True, True, True), (True, True, False), (True, False, False), (False, True, False), (False, False, False)}
        self.assertEqual(told, wanted)

    def test_equal_labels_with_other_words(self):
        one, other = Book(alls="first"), Book(alls="first", order="own all named")
        self.check(one, other)
        # The same labels touch, but one of them breaks under one book and changes under the other one.
        one, other = Verdicts(Book(spreads="spread")), Verdicts(Book(spreads="spread", near=False))
        expect(self, [False, False], [one <= other and other <= one, one == other])
        self.check(Book.strict(), Book.strict())
        self.check(Book(order="own=named all"), Book(order="own=named all", near=False))

    def test_comparisons_by_hand(self):
        expect(self, [True, True, False, False], self.signs(Book(alls="last"), Book(alls="last", marks=True)))
        expect(self, [False, False, True, True], self.signs(Book(alls="last", marks=True), Book(alls="last")))
        expect(self, [True, False, True, False], self.signs(Book(), Book()))
        expect(self, [False] * 4, self.signs(Book(alls="first"), Book(alls="last")))

    def signs(self, one, other):
        one, other = Verdicts(one), Verdicts(other)
        return [one <= other, one < other, one >= other, one > other]

    def test_values_of_other_kinds(self):
        verdicts = Verdicts(Book())
        for value in [*STRANGE, Book(), table(Book()), dict(table(Book()))]:
            expect(self, False, verdicts == value)
            expect(self, True, verdicts != value)
            expect(self, False, value == verdicts)
            for call in [
                lambda: verdicts <= value,
                lambda: verdicts < value,
                lambda: verdicts >= value,
                lambda: verdicts > value,
            ]:
                with self.assertRaises(TypeError):
                    call()


class ApartTest(unittest.TestCase):
    def test_the_first_label(self):
        expect(self, ("mark", "member", ""), apart(Book(marks=True), Book()))
        expect(self, None, apart(Book(), Book(marks=True)))
        expect(self, None, apart(Book(), Book()))
        expect(self, ("all", "all", "earlier"), apart(Book(alls="first"), Book(alls="last")))
        expect(self, ("all", "all", "later"), apart(second=Book(alls="first"), first=Book(alls="last")))
        expect(self, ("scope", "elder", ""), apart(Book(), Book.strict()))


class LeastBooksTest(unittest.TestCase):
    def check(self, wanted, books):
        for found in [least_books(books), least_books(books=tuple(books))]:
            self.assertIs(type(found), list)
            self.assertEqual(len(found), len(wanted))
            self.assertTrue(all(one == other for one, other in zip(found, wanted)))

    def test_some_books(self):
        plain, marked, late = Book(), Book(marks=True), Book.late()
        self.check([], [])
        self.check([marked], [marked])
        self.check([plain], [marked, plain])
        self.check([plain, plain], [plain, marked, plain, marked])
        self.check([marked, marked], [marked, marked])
        first, last = Book(alls="first"), Book(alls="last")
        self.check([last, first], [last, Book(alls="once"), first])
        self.check([first, last], [Book(alls="last", marks=True), first, last])
        self.check([late], [late])

    def test_books_at_random(self):
        draw = random.Random(92)
        for _ in range(60):
            books = [draw_book(draw) for _ in range(draw.randint(0, 9))]
            books += draw.sample(books, min(len(books), draw.randint(0, 2)))
            sets = [set(touching_labels(book)) for book in books]
            self.check([book for book, one in zip(books, sets) if not any(other < one for other in sets)], books)

    def test_many_books(self):
        books = list(all_books())[::38]
        sets = [set(touching_labels(book)) for book in books]
        self.check([book for book, one in zip(books, sets) if not any(other < one for other in sets)], books)
        least_books(books).clear()
        self.assertEqual(len(books), 99)


if __name__ == "__main__":
    unittest.main()
