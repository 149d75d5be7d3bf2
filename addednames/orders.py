"""What several additions do to a caller together, and in which orders they leave it right."""

from addednames.effects import behind, effect, touched_uses
from addednames.errors import TooMany
from addednames.problems import check_right, is_right
from addednames.several import Several

MOST_ADDITIONS = 8


def effect_of(view, several):
    """The effect of all additions together."""
    additions = several.additions
    return effect(view, *additions)


def showing(view, several):
    """The first addition, or else the first two additions, that touch the caller; None if none do."""
    additions = several.additions
    _check_behind(view, additions)
    singles = [[addition] for addition in additions]
    pairs = [[one, other] for index, one in enumerate(additions) for other in additions[index + 1:]]
    for rows in [*singles, *pairs]:
        if effect(view, *rows) != "stays":
            return Several(*rows)
    return None


def touchers(view, several):
    """A dict from the uses that are touched to the additions that touch this use alone."""
    additions = several.additions
    touched = touched_uses(view, *additions)
    alone = [(addition, touched_uses(view, addition)) for addition in additions]
    return {index: [addition for addition, uses in alone if index in uses] for index in touched}


def steps(view, additions):
    """Yields the effects of the first addition, of the first two, and so on."""
    rows = list(additions)
    _check_behind(view, rows)
    for many in range(1, len(rows) + 1):
        first = rows[:many]
        yield effect(view, *first)


def calm_order(view, several):
    """The first order of the additions in which each one leaves the caller right, or None."""
    check_right(view)
    additions = several.additions
    if len(additions) > MOST_ADDITIONS:
        raise TooMany(MOST_ADDITIONS)
    behind(view, *additions)
    orders = {(): []}
    for _ in additions:
        orders = _longer_orders(view, additions, orders)
    return [additions[index] for order in orders.values() for index in order] if orders else None


def _check_behind(view, additions):
    check_right(view)
    behind(view, *additions)


def _longer_orders(view, additions, orders):
    """The first calm order for each set of one addition more, by its indexes; earlier orders come first."""
    found = {}
    # Shorter orders come in order, so the first longer one that is met for a set is its first one.
    for chosen, order in orders.items():
        for index in range(len(additions)):
            longer = tuple(sorted([*chosen, index], key=int))
            if index not in chosen and longer not in found:
                found[longer] = [*order, index]
    return {chosen: order for chosen, order in found.items() if _is_calm(view, additions, chosen)}


def _is_calm(view, additions, chosen):
    rows = [additions[index] for index in chosen]
    return is_right(behind(view, *rows))
