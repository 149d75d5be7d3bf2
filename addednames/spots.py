"""The spots of a use: where its name can be told, and what tells there."""

from addednames.given import reached


def spots_of(caller, book, use):
    """The spots of a use, in order."""
    kind, at, name = use
    if kind == "member":
        return _member_spots(caller, at)
    if kind == "of":
        return [("of", library) for library in reached(caller.world, at)]
    return [
        *_scope_spots(caller, book, at),
        ("own",),
        *_import_spots(caller, "named", name),
        *_import_spots(caller, "all", name),
    ]


def place_at(caller, use, spot):
    """The place in the world that tells at a spot, or could tell; None for a spot of the caller itself."""
    name = use[2]
    if spot[0] == "named":
        return "name", spot[2], caller.imports[spot[1]][2]
    if spot[0] == "all":
        return "name", spot[2], name
    if spot[0] == "of":
        return "name", spot[1], name
    if spot[0] == "spread":
        return "spread", spot[1], caller.chain(use[1])[spot[2]], name
    if spot[0] in ("scope", "own"):
        return None
    owner = _owner(caller, use, spot)
    return ("member", owner, name) if caller.world.has_class(owner) else None


def thing_at(caller, use, spot):
    """The thing that is told at a spot, or None."""
    place = place_at(caller, use, spot)
    if place is not None:
        return caller.world.thing_at(place)
    return _own_names(caller, use, spot).get(use[2])


def libraries_of_alls(caller):
    """The libraries of all imports of all names, in the order of the imports."""
    return [entry[1] for entry in caller.imports if entry[0] == "all"]


def libraries_behind_alls(caller):
    """A dict of the libraries that the libraries of all imports of all names reach."""
    return {library: True for start in libraries_of_alls(caller) for library in reached(caller.world, start)}


def common_start(caller, use, one, other):
    """The library of the use or of the import to which two spots of a use belong; None if there is no such one."""
    if one[0] == "of":
        return use[1]
    # A spot of an import begins with its kind and the index of the import.
    if one[0] in ("named", "all") and one[:2] == other[:2]:
        return caller.imports[one[1]][1]
    return None


def _scope_spots(caller, book, scope):
    found = []
    for k, index in enumerate(caller.around(scope)):
        found.append(("scope", k))
        kind, _, held = caller.scopes[index]
        if kind == "body" and book.bodies != "never":
            found.extend([("elder", k, d) for d in range(1, len(caller.chain(held)))])
    return found


def _import_spots(caller, kind, name):
    """The spots of all imports of a kind, named ones with the name as their alias alone."""
    found = []
    for index, entry in enumerate(caller.imports):
        if entry[0] == kind and (kind == "all" or entry[3] == name):
            found.extend([(kind, index, library) for library in reached(caller.world, entry[1])])
    return found


def _member_spots(caller, name):
    world, owners = caller.world, caller.chain(name)
    met = libraries_behind_alls(caller)
    distances = [d for d, owner in enumerate(owners) if world.has_class(owner)]
    members = [("member", d) for d in range(len(owners))]
    spreads = [("spread", library, d) for library in world.library_names() if library in met for d in distances]
    return [*members, *spreads]


def _owner(caller, use, spot):
    """The class whose members tell at a spot of the kind elder or member."""
    if spot[0] == "member":
        return caller.chain(use[1])[spot[1]]
    scope = caller.around(use[1])[spot[1]]
    return caller.chain(caller.scopes[scope][2])[spot[2]]


def _own_names(caller, use, spot):
    """The names of the caller itself, with their things, that tell at a spot without a place in the world."""
    if spot[0] == "own":
        return dict(caller.own)
    if spot[0] != "scope":
        return caller.members_of(_owner(caller, use, spot))
    kind, _, held = caller.scopes[caller.around(use[1])[spot[1]]]
    return dict(held) if kind == "block" else caller.members_of(held)
