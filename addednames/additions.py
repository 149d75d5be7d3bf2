"""Places, and the additions of new things at them."""

from addednames.errors import BadPlace, BadThing
from addednames.words import is_name, is_thing, is_word


def is_place(value):
    """Whether any value is a tuple of the form of a place, with names."""
    if not isinstance(value, tuple) or len(value) < 1:
        return False
    kind, *names = value
    if is_word(kind, ("name", "member")):
        many = 2
    elif is_word(kind, ("spread",)):
        many = 3
    else:
        return False
    return len(names) == many and all([is_name(name) for name in names])


class Addition:
    """A new thing at a place."""

    def __init__(self, place, thing):
        if not is_place(place):
            raise BadPlace(place)
        if not is_thing(thing):
            raise BadThing(thing)
        self.place = place
        self.thing = thing
        self.kind = place[0]
        self.name = place[-1]

    def __eq__(self, other):
        return isinstance(other, Addition) and self.place == other.place and self.thing == other.thing
