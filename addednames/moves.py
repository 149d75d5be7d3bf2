"""The moves of a caller, and the least sets of them that make it safe and leave what it finds."""

from addednames.callers import Caller
from addednames.errors import BadMove, TooMany
from addednames.given import seen
from addednames.growth import growing
from addednames.problems import check_right, problems
from addednames.questions import least_sets, questions
from addednames.spots import place_at
from addednames.touching import risks, touching
from addednames.views import View
from addednames.words import is_equal

MOST_MOVES = 8


def moves(view):
    """The moves of a right caller, in order."""
    check_right(view)
    return _listed(_plan(view))


def moved(view, chosen):
    """The view behind some moves of a right caller, made at once."""
    check_right(view)
    plan = _plan(view)
    return _behind_moves(view, plan, _checked(plan, chosen))


def flaw(view, chosen, *, libraries=None, classes=None):
    """The first thing that is wrong with some moves, or None if they are good."""
    growing(view, libraries, classes)
    later = moved(view, chosen)
    return _flaw_behind(view.results(), later, {"libraries": libraries, "classes": classes})


def least_moves(view, *, libraries=None, classes=None):
    """The good sets of moves no proper part of which is good; smaller ones first."""
    grown = growing(view, libraries, classes)
    check_right(view)
    plan = _plan(view)
    rows = _listed(plan)
    if len(rows) > MOST_MOVES:
        raise TooMany(MOST_MOVES)
    bits = {move: 1 << number for number, move in enumerate(rows[::-1])}
    found = least_sets(list(bits.values()), questions(view, plan, bits, grown))
    return [tuple([move for move in rows if bits[move] & chosen]) for chosen in found]


def _plan(view):
    """What the moves put in: dicts of imports for `home`, of uses with their libraries for `spell`, and of uses."""
    caller = view.caller
    foremost = [[spot for spot, _ in view.foremost(index)] for index in range(len(caller))]
    return _homes(view), _spells(caller, foremost), _wholes(caller, foremost)


def _homes(view):
    found = {}
    for index, entry in enumerate(view.caller.imports):
        if entry[0] == "named":
            holder = seen(view.caller.world, view.book, entry[1], entry[2])[0]
            if holder != entry[1]:
                found[index] = ("named", holder, *entry[2:])
    return found


def _spells(caller, foremost):
    rows = [(spot, number) for number, spots in enumerate(foremost) for spot in spots]
    return {
        index: [(number, spot[2]) for spot, number in rows if spot[:2] == ("all", index)]
        for index, entry in enumerate(caller.imports)
        if entry[0] == "all"
    }


def _wholes(caller, foremost):
    found = {}
    for index, use in enumerate(caller.uses):
        places = [place_at(caller, use, spot) for spot in foremost[index] if spot[0] in ("named", "all", "of")]
        if places and use[:2] != ("of", places[0][1]):
            found[index] = ("of", *places[0][1:])
    return found


def _listed(plan):
    homes, spells, wholes = plan
    return [
        *[("home", index) for index in homes],
        *[("spell", index) for index in spells],
        *[("whole", index) for index in wholes],
    ]


def _checked(plan, chosen):
    """Some values as moves; raises BadMove for the first one that is none, or that comes a second time."""
    rows, found = _listed(plan), []
    for value in chosen:
        if not any([is_equal(value, move) for move in rows]) or value in found:
            raise BadMove(value)
        found.append(value)
    return found


def _behind_moves(view, plan, chosen):
    caller, (_, _, wholes) = view.caller, plan
    libraries = {use[1]: True for index, use in wholes.items() if ("whole", index) in chosen}
    added = [("whole", library) for library in libraries if ("whole", library) not in caller.imports]
    later = Caller(
        caller.world,
        [*_imports_behind(caller, plan, chosen), *added],
        own=caller.own,
        classes=caller.classes,
        scopes=caller.scopes,
        uses=[wholes[index] if ("whole", index) in chosen else use for index, use in enumerate(caller.uses)],
    )
    return View(later, view.book)


def _imports_behind(caller, plan, chosen):
    """What stands in the places of the imports of a caller."""
    homes, spells, _ = plan
    found = []
    for index, entry in enumerate(caller.imports):
        if ("spell", index) in chosen:
            kept = [(number, library) for number, library in spells[index] if ("whole", number) not in chosen]
            names = {caller.uses[number][2]: library for number, library in kept}
            found.extend([("named", names[name], name, name) for name in sorted(list(names), key=str)])
        else:
            found.append(homes[index] if ("home", index) in chosen else entry)
    return found


def _flaw_behind(results, later, grown):
    """The first thing that is wrong with a view behind moves, by the results ahead of them; None if nothing is."""
    for index, result in enumerate(later.results()):
        if result != results[index]:
            return "use", index
    wrong = problems(later)
    if wrong:
        return "problem", wrong[0]
    touched = touching(later, **grown)
    if touched:
        return ("touched", *touched[0])
    pairs = risks(later, **grown)
    return ("risk", *pairs[0]) if pairs else None
