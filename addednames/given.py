"""What libraries reach, and what they give under a name."""

from addednames.errors import UnknownName


def reached(world, library):
    """The libraries that a library reaches: itself first, nearer ones ahead of farther ones."""
    _check_libraries(world, [library])
    return _met(world, library, [])


def cuts_off(world, library, keeper, other):
    """Whether every way from a library to another one leads through the keeper."""
    _check_libraries(world, [library, keeper, other])
    if keeper == other or other not in _met(world, library, []):
        return False
    return other not in _met(world, library, [keeper])


def reached_past(world, library, avoided):
    """The libraries that a library reaches without going over an avoided one; all that it reaches for None."""
    return [other for other in _met(world, library, [avoided]) if other != avoided]


def seen(world, book, library, name):
    """The libraries that are seen from a library for a name, in the order of reached."""
    holders = [other for other in reached(world, library) if name in world.names_of(other)]
    if book.given == "both":
        return holders
    # The ways that lead past a holder meet libraries in another order than reached.
    met = _met(world, library, holders)
    return [other for other in holders if other in met]


def gives(world, book, library, name):
    """What a library gives under a name: a thing, a clash or nothing."""
    found = seen(world, book, library, name)
    if not found:
        return ("nothing",)
    if len(found) > 1:
        return ("clash",)
    return ("found", world.names_of(found[0])[name])


def given_names(world, book, library):
    """The names for which a library gives a thing or a clash, ascending."""
    names = {name: True for other in reached(world, library) for name in world.names_of(other)}
    # Under both words of the book, some library is seen for each name that is reached.
    return sorted(list(names), key=str)


def _check_libraries(world, values):
    for value in values:
        if not world.has_library(value):
            raise UnknownName(value)


def _met(world, library, stops):
    """The libraries on the ways from a library that lead no farther than to a stop."""
    found = [library]
    known = {library: True}
    at = 0
    while at < len(found):
        nearest = [] if found[at] in stops else world.gives_of(found[at])
        found.extend([other for other in nearest if other not in known])
        known.update({other: True for other in nearest})
        at = at + 1
    return found
