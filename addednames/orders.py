"""What several additions do to a caller together, and in which orders they leave it right."""

from addednames.effects import behind, effect, touched_uses
from addednames.errors import TooMany
from addednames.problems import check_right, is_right
from addednames.several import Several

MOST_ADDITIONS = 8


def effect_of(view, several):
    """The effect of all additions together."""
    additions = several.additions
    return effect(view, *additions)


def showing(view, several):
    """The first addition, or else the first two additions, that touch the caller; None if none do."""
    additions = several.additions
    _check_behind(view, additions)
    singles = [[addition] for addition in additions]
    pairs = [[one, other] for index, one in enumerate(additions) for other in additions[index + 1:]]
    for rows in [*singles, *pairs]:
        if effect(view, *rows) != "stays":
            return Several(*rows)
    return None


def touchers(view, several):
    """A dict from the uses that are touched to the additions that touch this use alone."""
    additions = several.additions
    touched = touched_uses(view, *additions)
    alone = [(addition, touched_uses(view, addition)) for addition in additions]
    return {index: [addition for addition, uses in alone if index in uses] for index in touched}


def steps(view, additions):
    """Yields the effects of the first addition, of the first two, and so on."""
    rows = list(additions)
    _check_behind(view, rows)
    for many in range(1, len(rows) + 1):
        first = rows[:many]
        yield effect(view, *first)


def calm_order(view, several):
    """The first order of the additions in which each one leaves the caller right, or None."""
    check_right(view)
    additions = several.additions
    if len(additions) > MOST_ADDITIONS:
        raise TooMany(MOST_ADDITIONS)
    # All orders end with all additions, so none of them has to be tried if these leave the caller wrong.
    if not is_right(behind(view, *additions)):
        return None
    order = _calm_rest(view, additions, tuple(range(len(additions))), {})
    return None if order is None else [additions[index] for index in order]


def _check_behind(view, additions):
    check_right(view)
    behind(view, *additions)


def _calm_rest(view, additions, left, barred):
    """The first calm order of the additions that are left, by their indexes, or None.

    The view is the one behind all others. What is left behind a wrong view, or where no order leads on, is
    barred: it is the same for each order of the others, so it is tried only once.
    """
    if len(left) < 2:
        return list(left)
    for index in left:
        rest = tuple([other for other in left if other != index])
        if rest not in barred:
            later = behind(view, additions[index])
            order = _calm_rest(later, additions, rest, barred) if is_right(later) else None
            if order is not None:
                return [index, *order]
            barred[rest] = True
    return None
