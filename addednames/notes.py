"""Places that are noted under names."""

from addednames.additions import is_place
from addednames.errors import BadName, BadPlace
from addednames.words import is_name


class Notes:
    """Places with names."""

    def __init__(self):
        self._places = {}

    def listed(self):
        """The tuples (name, place), by ascending names."""
        return [(name, self._places[name]) for name in sorted(list(self._places), key=str)]

    def __len__(self):
        return len(self._places)

    def __contains__(self, x):
        return is_name(x) and x in self._places

    def __getitem__(self, at):
        if at not in self:
            raise BadName(at)
        return self._places[at]

    def __setitem__(self, at, worth):
        if not is_name(at):
            raise BadName(at)
        if not is_place(worth):
            raise BadPlace(worth)
        self._places[at] = worth

    def __iter__(self):
        raise TypeError("Notes cannot be iterated")
