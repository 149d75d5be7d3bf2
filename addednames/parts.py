"""Parts of callers that show how an addition touches them."""

from addednames.callers import Caller
from addednames.given import reached


def part_of_imports(caller, indexes):
    """The part with some imports alone."""
    return Caller(caller.world, [caller.imports[index] for index in indexes])


def part_of_member(caller, owner, name):
    """The part with an own class and the own ones of its chain, and with their members of one name alone."""
    return Caller(caller.world, classes=_classes(caller, [owner], name))


def part_of_use(caller, index, spots):
    """The part with one use, and with the imports to which some of its spots belong."""
    use = caller.uses[index]
    met = [_import_of(caller, use, spot) for spot in spots]
    imports = [entry for number, entry in enumerate(caller.imports) if number in met]
    if use[0] == "of":
        return Caller(caller.world, imports, uses=[use])
    if use[0] == "member":
        return Caller(caller.world, imports, classes=_classes(caller, [use[1]], use[2]), uses=[use])
    return _part_of_name(caller, imports, use[1], use[2])


def _part_of_name(caller, imports, start, name):
    """The part with one use of the kind name, and with all that is around it but for some imports."""
    # Scopes, own names and members of the name all stay, so each spot stands to the other ones as it did.
    around = [caller.scopes[scope] for scope in caller.around(start)[::-1]]
    bodies = [held for kind, _, held in around if kind == "body"]
    return Caller(
        caller.world,
        imports,
        own=_named(caller.own, name),
        classes=_classes(caller, bodies, name),
        scopes=[_scope(number, entry, name) for number, entry in enumerate(around)],
        uses=[("name", len(around) - 1 if around else None, name)],
    )


def _import_of(caller, use, spot):
    """The index of an import to which a spot of a use belongs, or None."""
    if spot[0] in ("named", "all"):
        return spot[1]
    if spot[0] == "of":
        return caller.imports.index(("whole", use[1]))
    return _first_all(caller, spot[1]) if spot[0] == "spread" else None


def _first_all(caller, library):
    """The index of the first import of all names whose library reaches another one."""
    for index, entry in enumerate(caller.imports):
        if entry[0] == "all" and library in reached(caller.world, entry[1]):
            return index
    return None


def _classes(caller, owners, name):
    """The own classes in the chains of some classes, with their members of one name alone."""
    met = {owner: True for start in owners for owner in caller.chain(start)}
    return [(owner, elder, _named(members, name)) for owner, elder, members in caller.classes if owner in met]


def _scope(index, entry, name):
    """A scope of a row in which each one stands in the one before, with its locals of one name alone."""
    kind, _, held = entry
    return kind, index - 1 if index else None, _named(held, name) if kind == "block" else held


def _named(rows, name):
    return [row for row in rows if row[0] == name]
