"""The places at which an addition touches a caller, and the risks of two additions together."""

from addednames.effects import places_for
from addednames.errors import UnknownName
from addednames.given import reached, seen
from addednames.growth import growing
from addednames.problems import all_names, check_right, holder_at_once
from addednames.silences import spot_silences
from addednames.spots import libraries_of_alls, place_at
from addednames.ways import are_both_seen, seen_beside, way_past

LETTERS = "abcdefghijklmnopqrstuvwxyz"


def touching(view, *, libraries=None, classes=None):
    """The tuples (place, effect) for all growing places at which an addition touches the caller."""
    grown = growing(view, libraries, classes)
    check_right(view)
    world, effects = view.caller.world, _effects(view)
    names = _ascending([place[-1] for place in effects])
    return [(place, effects[place]) for place in places_for(world, names) if place in effects and place[:2] in grown]


def touching_names(view, *, libraries=None, classes=None):
    """The names of the growing places at which an addition touches the caller, ascending."""
    return _ascending([place[-1] for place, _ in touching(view, libraries=libraries, classes=classes)])


def risks(view, *, libraries=None, classes=None):
    """The pairs of growing libraries at which two additions of a fresh name are a problem."""
    grown = growing(view, libraries, classes)
    check_right(view)
    if view.book.alls != "once":
        return []
    names = [name for name in view.caller.world.library_names() if ("name", name) in grown]
    beside = {name: _seen_beside(view, name) for name in names}
    pairs = [(one, other) for index, one in enumerate(names) for other in names[index + 1:]]
    return [(one, other) for one, other in pairs if one in beside[other] and other in beside[one]]


def risk_ways(view, first, second):
    """The ways by which two libraries are seen from imports of all names, if they are a risk; otherwise None."""
    for library in (first, second):
        if not view.caller.world.has_library(library):
            raise UnknownName(library)
    check_right(view)
    if first == second or view.book.alls != "once":
        return None
    one, other = _import_way(view, first, second), _import_way(view, second, first)
    return None if one is None or other is None else (one, other)


def fresh_name(caller):
    """The first name that occurs nowhere in a caller and its world; shorter ones come first."""
    met = {name: True for name in [*_names_of_world(caller.world), *_names_of_caller(caller)]}
    number = 0
    while _numbered_name(number) in met:
        number = number + 1
    return _numbered_name(number)


def _effects(view):
    """A dict from all places at which an addition touches the caller to its effect."""
    rows = [row for index in range(len(view.caller)) for row in _use_effects(view, index)]
    effects = {place: word for place, word in rows}
    broken = [place for place, word in rows if word == "breaks"]
    for place in [*broken, *_import_places(view), *_once_places(view), *mark_places(view)]:
        effects[place] = "breaks"
    return effects


def _use_effects(view, index):
    """The tuples (place, effect) for the places at which an addition touches one use."""
    caller, book, use = view.caller, view.book, view.caller.uses[index]
    foremost = [spot for spot, _ in view.foremost(index)]
    heard = {}
    for spot in view.spots(index):
        # All foremost spots tell what is found, so a spot that one of them silences stays without an effect.
        if not any([one == spot or spot_silences(caller, book, use, one, spot) for one in foremost]):
            heard.setdefault(place_at(caller, use, spot), []).append(spot)
    rows = []
    for place, spots in heard.items():
        kept = [one for one in foremost if not any([spot_silences(caller, book, use, new, one) for new in spots])]
        if place is not None:
            rows.append((place, "breaks" if kept else "changes"))
    return rows


def _import_places(view):
    world, book = view.caller.world, view.book
    found = []
    for entry in view.caller.imports:
        if entry[0] == "named":
            holder = seen(world, book, entry[1], entry[2])[0]
            found.extend(clashing_places(view, [entry[1]], holder, entry[2]))
    return found


def _once_places(view):
    if view.book.alls != "once":
        return []
    libraries, found = libraries_of_alls(view.caller), []
    for name in all_names(view):
        found.extend(clashing_places(view, libraries, holder_at_once(view, name), name))
    return found


def clashing_places(view, libraries, holder, name):
    """The places of a name that, behind an addition, is seen there and at its holder."""
    world, book = view.caller.world, view.book
    others = {other: True for library in libraries for other in reached(world, library)}
    free = [other for other in others if world.thing_at(("name", other, name)) is None]
    return [("name", other, name) for other in free if are_both_seen(world, book, libraries, holder, other)]


def mark_places(view):
    """The places of members that an own member, which is not marked, would hide behind an addition."""
    if not view.book.marks:
        return []
    caller, found = view.caller, []
    for owner, _, members in caller.classes:
        above = [elder for elder in caller.chain(owner) if caller.world.has_class(elder)]
        found.extend([("member", elder, name) for elder in above for name, _, marked in members if not marked])
    return found


def _seen_beside(view, other):
    """A dict of the libraries that imports of all names see for a name that another one has, too."""
    world, book, libraries = view.caller.world, view.book, libraries_of_alls(view.caller)
    return {one: True for library in libraries for one in seen_beside(world, book, library, other)}


def _import_way(view, library, other):
    """The index of an import of all names that sees a library beside another one, and a way to the library."""
    avoided = other if view.book.given == "own" else None
    for index, entry in enumerate(view.caller.imports):
        way = way_past(view.caller.world, entry[1], library, avoided) if entry[0] == "all" else None
        if way is not None:
            return index, way
    return None


def _names_of_world(world):
    found = []
    for library in world.library_names():
        found.extend([*list(world.names_of(library)), *[name for _, name, _ in world.spreads_of(library)]])
    for owner in world.class_names():
        found.extend(list(world.members_of(owner)))
    return found


def _names_of_caller(caller):
    found = [*[name for name, _ in caller.own], *[use[2] for use in caller.uses]]
    for entry in caller.imports:
        found.extend(entry[2:])
    for _, _, members in caller.classes:
        found.extend([name for name, _, _ in members])
    for kind, _, held in caller.scopes:
        found.extend([name for name, _ in held] if kind == "block" else [])
    return found


def _ascending(names):
    met = {name: True for name in names}
    return sorted(list(met), key=str)


def _numbered_name(number):
    """The name with a number, from 0 on; shorter ones come first, then earlier ones."""
    name = ""
    while number >= 0:
        name = LETTERS[number % 26] + name
        number = number // 26 - 1
    return name
