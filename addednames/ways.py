"""How two libraries with one name stand to each other, from the libraries of imports."""

from addednames.given import cuts_off, reached_past


def standing(world, library, one, other):
    """How a library stands to another one, from a library that reaches both: ahead, beside or behind."""
    if cuts_off(world, library, one, other):
        return "ahead"
    return "behind" if cuts_off(world, library, other, one) else "beside"


def seen_beside(world, book, library, other):
    """The libraries that are seen from a library for a name that another one has, too, and no further one."""
    return reached_past(world, library, other if book.given == "own" else None)


def are_both_seen(world, book, libraries, one, other):
    """Whether two libraries that have a name are seen for it, each one from at least one of some libraries."""
    first = [one in seen_beside(world, book, library, other) for library in libraries]
    second = [other in seen_beside(world, book, library, one) for library in libraries]
    return any(first) and any(second)


def way_past(world, library, target, avoided):
    """A shortest way from a library to another one that does not lead over an avoided one, or None."""
    ways = [[library]] if library != avoided else []
    met = [library, avoided]
    at = 0
    while at < len(ways):
        way = ways[at]
        if way[-1] == target:
            return way
        nearest = [other for other in world.gives_of(way[-1]) if other not in met]
        ways.extend([[*way, other] for other in nearest])
        met.extend(nearest)
        at = at + 1
    return None
