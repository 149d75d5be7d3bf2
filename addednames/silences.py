"""Which spots of a use silence which other ones."""

from addednames.given import cuts_off


def spot_silences(caller, book, use, one, other):
    """Whether a spot of a use silences another one."""
    if one == other:
        return False
    if use[0] == "member":
        return _member_silences(book, one, other)
    if use[0] == "of":
        return _hides(caller.world, book, use[1], one[1], other[1])
    front, back = _position(book, one), _position(book, other)
    if front != back:
        return front < back
    if one[0] != other[0]:
        return False
    # Spots of scopes and elders have each a position of its own, so these two belong to imports of one kind.
    if one[1] != other[1]:
        return one[0] == "all" and _import_silences(book, one[1], other[1])
    return _hides(caller.world, book, caller.imports[one[1]][1], one[2], other[2])


def foremost_of(caller, book, use, tellers):
    """Those of some tuples (spot, thing) whose spots no other one of them silences."""
    spots = [spot for spot, _ in tellers]
    return [row for row in tellers if not any([spot_silences(caller, book, use, one, row[0]) for one in spots])]


def _position(book, spot):
    """A tuple that is less for a spot that is ahead, and equal for the spots of level groups."""
    if spot[0] == "scope":
        return 0, spot[1], 0
    if spot[0] == "elder":
        return 0 if book.bodies == "ahead" else 2, spot[1], spot[2]
    return 1, book.rank(spot[0]), 0


def _import_silences(book, one, other):
    if book.alls == "first":
        return one < other
    return book.alls == "last" and one > other


def _hides(world, book, library, keeper, other):
    return book.given == "own" and cuts_off(world, library, keeper, other)


def _member_silences(book, one, other):
    if one[0] != other[0]:
        return one[0] == book.spreads
    if one[0] == "member":
        return one[1] < other[1]
    return book.near and one[2] < other[2]
