"""Sets of additions."""

from addednames.additions import Addition, is_place
from addednames.errors import AlreadyThere, BadAddition, BadPlace, BadThing


class Several:
    """Additions at unlike places, with unlike things, in the order in which they come first; it never changes."""

    def __init__(self, *additions):
        self._additions = _checked(additions)

    @property
    def additions(self):
        """The additions, in order."""
        return self._additions

    def __len__(self):
        return len(self._additions)

    def __contains__(self, x):
        return isinstance(x, Addition) and x in self._additions

    def __getitem__(self, at):
        if is_place(at):
            for addition in self._additions:
                if addition.place == at:
                    return addition
        raise BadPlace(at)

    def __iter__(self):
        raise TypeError("a Several cannot be iterated")

    def __or__(self, other):
        if not isinstance(other, (Several, Addition)):
            return NotImplemented
        rows = [*self._additions, *_rows(other)]
        return Several(*rows)

    def __ror__(self, other):
        if not isinstance(other, Addition):
            return NotImplemented
        return Several(other) | self

    def __and__(self, other):
        if not isinstance(other, (Several, Addition)):
            return NotImplemented
        rows = [addition for addition in self._additions if addition in _rows(other)]
        return Several(*rows)

    def __rand__(self, other):
        if not isinstance(other, Addition):
            return NotImplemented
        return Several(other) & self

    def __sub__(self, other):
        if not isinstance(other, (Several, Addition)):
            return NotImplemented
        rows = [addition for addition in self._additions if addition not in _rows(other)]
        return Several(*rows)

    def __rsub__(self, other):
        if not isinstance(other, Addition):
            return NotImplemented
        return Several(other) - self

    def __le__(self, other):
        if not isinstance(other, Several):
            return NotImplemented
        return _has_all(other, self)

    def __lt__(self, other):
        if not isinstance(other, Several):
            return NotImplemented
        return _has_all(other, self) and len(self._additions) < len(other._additions)

    def __ge__(self, other):
        if not isinstance(other, Several):
            return NotImplemented
        return _has_all(self, other)

    def __gt__(self, other):
        if not isinstance(other, Several):
            return NotImplemented
        return _has_all(self, other) and len(self._additions) > len(other._additions)

    def __eq__(self, other):
        return isinstance(other, Several) and len(self._additions) == len(other._additions) and _has_all(self, other)


def _checked(values):
    """The additions of some values, equal ones once."""
    for value in values:
        if not isinstance(value, Addition):
            raise BadAddition(value)
    found = []
    for value in values:
        if value not in found:
            _check_beside(value, found)
            found.append(value)
    return tuple(found)


def _check_beside(addition, earlier):
    """Raises an error for an addition with the place or the thing of an unlike one."""
    if addition.place in [other.place for other in earlier]:
        raise AlreadyThere(addition.place)
    if addition.thing in [other.thing for other in earlier]:
        raise BadThing(addition.thing)


def _rows(value):
    return value.additions if isinstance(value, Several) else (value,)


def _has_all(one, other):
    return all([addition in one.additions for addition in other.additions])
