"""The tables of books as values that can be compared."""

from addednames.cases import TOUCHING_WORDS, is_label, labels, table
from addednames.errors import UnknownCase


class Verdicts:
    """The table of a book; it never changes."""

    def __init__(self, book):
        self._book = book
        self._words = {label: word for label, word in table(book)}
        self._touching = {label: True for label, word in self._words.items() if word in TOUCHING_WORDS}

    @property
    def book(self):
        """The book."""
        return self._book

    def __len__(self):
        return len(self._touching)

    def __contains__(self, x):
        return is_label(x) and x in self._touching

    def __getitem__(self, at):
        if not is_label(at):
            raise UnknownCase(at)
        return self._words[at]

    def __iter__(self):
        raise TypeError("Verdicts cannot be iterated")

    def __le__(self, other):
        if not isinstance(other, Verdicts):
            return NotImplemented
        return _has_all(other, self)

    def __lt__(self, other):
        if not isinstance(other, Verdicts):
            return NotImplemented
        return _has_all(other, self) and not _has_all(self, other)

    def __ge__(self, other):
        if not isinstance(other, Verdicts):
            return NotImplemented
        return _has_all(self, other)

    def __gt__(self, other):
        if not isinstance(other, Verdicts):
            return NotImplemented
        return _has_all(self, other) and not _has_all(other, self)

    def __eq__(self, other):
        return isinstance(other, Verdicts) and self._words == other._words


def apart(first, second):
    """The first label that touches under the first of two books, and not under the second one; None if none does."""
    one, other = Verdicts(first), Verdicts(second)
    for label in labels():
        if label in one and label not in other:
            return label
    return None


def least_books(books):
    """Those of some books of which no other one has verdicts that are less."""
    rows = [(book, Verdicts(book)) for book in books]
    return [book for book, verdicts in rows if not any([other < verdicts for _, other in rows])]


def _has_all(one, other):
    """Whether one has each label that is in the other."""
    return all([label in one._touching for label in other._touching])
