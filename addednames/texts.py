"""Views, books and places as texts, and the texts read again."""

from addednames.additions import is_place
from addednames.callers import Caller
from addednames.errors import BadText
from addednames.lines import book_words, class_line, heir_line, library_line, own_line
from addednames.lines import read_book_words, read_line, scope_line, use_line
from addednames.views import View
from addednames.worlds import World

# As many as there are kinds of lines that do not stand among one another.
KINDS = 8


def write(view):
    """A view as lines."""
    caller = view.caller
    rows = [
        f"book {write_book(view.book)}",
        *_world_lines(caller.world),
        *[" ".join(entry) for entry in caller.imports],
        *[own_line(name, thing) for name, thing in caller.own],
        *[heir_line(name, elder, members) for name, elder, members in caller.classes],
        *[scope_line(kind, parent, held) for kind, parent, held in caller.scopes],
        *[use_line(kind, at, name) for kind, at, name in caller.uses],
    ]
    return "\n".join(rows)


def read(text):
    """The view that is written so."""
    if not isinstance(text, str):
        raise BadText(None)
    rows = _checked_rows(text.split("\n"))
    books, classes, libraries, imports, own, heirs, scopes, uses = _by_ranks(rows)
    world = World(libraries, classes)
    return View(Caller(world, imports, own=own, classes=heirs, scopes=scopes, uses=uses), books[0])


def write_book(book):
    """The line of a book, without its first word."""
    return " ".join(book_words(book))


def read_book(text):
    """The book that is written so."""
    book = read_book_words(text.split(" ")) if isinstance(text, str) else None
    if book is None:
        raise BadText(None)
    return book


def write_place(place):
    """The words of a place."""
    return " ".join(place)


def read_place(text):
    """The place that is written so."""
    place = tuple(text.split(" ")) if isinstance(text, str) else None
    if not is_place(place):
        raise BadText(None)
    return place


def _world_lines(world):
    rows = []
    for name in world.class_names():
        rows.append(class_line(name, world.elder_of(name), list(world.members_of(name).items())))
    for name in world.library_names():
        names = list(world.names_of(name).items())
        rows.append(library_line(name, names, world.gives_of(name), world.spreads_of(name)))
    return rows


def _checked_rows(lines):
    """The tuples (rank, entry) of some lines; raises BadText for the first one that cannot stand where it stands."""
    rows, last = [], 0
    for index, line in enumerate(lines):
        row = read_line(line)
        # The line of the book is the first one, and no other one is a line of a book.
        if row is None or (row[0] == 0) != (index == 0) or row[0] < last:
            raise BadText(index)
        rows.append(row)
        last = row[0]
    return rows


def _by_ranks(rows):
    """The lists of the entries of each rank."""
    return [[entry for number, entry in rows if number == rank] for rank in range(KINDS)]
