"""Books: how names are looked up."""

from addednames.errors import BadPart
from addednames.words import is_word

GROUPS = ("own", "named", "all")
ORDERS = (
    "own=named=all",
    "own=named all",
    "own=all named",
    "own named=all",
    "own named all",
    "own all named",
    "named=all own",
    "named own=all",
    "named own all",
    "all own=named",
    "all own named",
    "named all own",
    "all named own",
)
PARTS = ("order", "given", "alls", "bodies", "spreads", "near", "marks")
TRUTHS = ("near", "marks")
WORDS = {
    "given": ("own", "both"),
    "alls": ("use", "once", "first", "last"),
    "bodies": ("ahead", "behind", "never"),
    "spreads": ("member", "spread", "tie"),
}


class Book:
    """The seven parts that fix how names are looked up; it never changes."""

    def __init__(
        self,
        *,
        order="own named all",
        given="own",
        alls="use",
        bodies="ahead",
        spreads="member",
        near=True,
        marks=False,
    ):
        parts = {
            "order": order,
            "given": given,
            "alls": alls,
            "bodies": bodies,
            "spreads": spreads,
            "near": near,
            "marks": marks,
        }
        for part, value in parts.items():
            if not _is_value(part, value):
                raise BadPart(part)
        self._parts = parts

    @staticmethod
    def plain():
        """The book of the defaults."""
        return Book()

    @staticmethod
    def strict():
        """The book under which most additions clash."""
        return Book(
            order="own=named=all",
            given="both",
            alls="once",
            bodies="never",
            spreads="tie",
            near=False,
            marks=True,
        )

    @staticmethod
    def late():
        """The book under which what comes later or from farther away is ahead."""
        return Book(
            order="all named own",
            given="own",
            alls="last",
            bodies="behind",
            spreads="spread",
            near=True,
            marks=False,
        )

    @property
    def order(self):
        """The groups of the top, the one that is ahead first."""
        return self._parts["order"]

    @property
    def given(self):
        """Which libraries are seen from a library."""
        return self._parts["given"]

    @property
    def alls(self):
        """What level imports of all names do."""
        return self._parts["alls"]

    @property
    def bodies(self):
        """Where the members of the elders of a class are seen in its body."""
        return self._parts["bodies"]

    @property
    def spreads(self):
        """How members and spreads stand to one another."""
        return self._parts["spreads"]

    @property
    def near(self):
        """Whether the spread of a nearer class is ahead."""
        return self._parts["near"]

    @property
    def marks(self):
        """Whether own members that hide a member of an elder must be marked."""
        return self._parts["marks"]

    def rank(self, group):
        """The number of groups of level ones that are ahead of own, named or all."""
        if not is_word(group, GROUPS):
            raise BadPart(group)
        levels = self._parts["order"].split(" ")
        return [rank for rank, level in enumerate(levels) if group in level.split("=")][0]

    def changed(self, part, value):
        """The book with another value of a part."""
        if not is_word(part, PARTS):
            raise BadPart(part)
        parts = {**self._parts, part: value}
        return Book(**parts)

    def __getitem__(self, at):
        if not is_word(at, PARTS):
            raise BadPart(at)
        return self._parts[at]

    def __iter__(self):
        raise TypeError("a Book cannot be iterated")

    def __eq__(self, other):
        return isinstance(other, Book) and self._parts == other._parts


def all_books():
    """Yields all books; the values of the last part change first."""
    for parts in _all_parts():
        yield Book(**parts)


def _all_parts():
    rows = [{}]
    for part in PARTS:
        rows = [{**row, part: value} for row in rows for value in _values_of(part)]
    return rows


def _values_of(part):
    if part == "order":
        return ORDERS
    return (True, False) if part in TRUTHS else WORDS[part]


def _is_value(part, value):
    # Truths are told by their class, because 1 and 0 are equal to them.
    if part in TRUTHS:
        return isinstance(value, bool)
    return is_word(value, _values_of(part))
