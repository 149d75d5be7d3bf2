"""Views: callers under a book, with what their uses find."""

from addednames.errors import BadSpot, NoUse
from addednames.silences import foremost_of, spot_silences
from addednames.spots import place_at, spots_of, thing_at
from addednames.words import is_index, is_integer


class View:
    """A caller under a book; it never changes."""

    def __init__(self, caller, book):
        self._caller = caller
        self._book = book

    @property
    def caller(self):
        """The caller."""
        return self._caller

    @property
    def book(self):
        """The book."""
        return self._book

    def spots(self, index):
        """The spots of a use, in order."""
        return spots_of(self._caller, self._book, self._use(index))

    def place_of(self, index, spot):
        """The place in the world that tells at a spot, or could tell; None for a spot of the caller itself."""
        self._check_spots(index, [spot])
        return place_at(self._caller, self._use(index), spot)

    def told(self, index, spot):
        """The thing that is told at a spot, or None."""
        self._check_spots(index, [spot])
        return thing_at(self._caller, self._use(index), spot)

    def tellers(self, index):
        """The tuples (spot, thing) of the spots that tell, in order."""
        use = self._use(index)
        rows = [(spot, thing_at(self._caller, use, spot)) for spot in self.spots(index)]
        return [(spot, thing) for spot, thing in rows if thing is not None]

    def silences(self, index, one, other):
        """Whether a spot silences another one."""
        self._check_spots(index, [one, other])
        return spot_silences(self._caller, self._book, self._use(index), one, other)

    def foremost(self, index):
        """Those of the tellers whose spots no other teller silences."""
        return foremost_of(self._caller, self._book, self._use(index), self.tellers(index))

    def results(self):
        """What each use finds."""
        return [self._result(index) for index in range(len(self._caller))]

    def _use(self, value):
        if not is_index(value, len(self._caller)):
            raise NoUse(value)
        return self._caller.uses[value]

    def _check_spots(self, index, values):
        spots = self.spots(index)
        for value in values:
            if not _has_form(value) or value not in spots:
                raise BadSpot(value)

    def _result(self, index):
        things = list({thing: True for _, thing in self.foremost(index)})
        if not things:
            return ("nothing",)
        return ("clash",) if len(things) > 1 else ("found", things[0])

    def __call__(self, index):
        return self._result(index)

    def __eq__(self, other):
        return isinstance(other, View) and self._caller == other._caller and self._book == other._book


def _has_form(value):
    """Whether any value is a tuple of strings and integers, which can be compared with a spot."""
    # True and False are told apart from integers here, because they are equal to 1 and 0.
    return isinstance(value, tuple) and all([isinstance(item, str) or is_integer(item) for item in value])
