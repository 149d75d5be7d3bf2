"""A slow second reading of what the document says of papers, with which the program is compared."""

from itertools import product

from model import facts, reach, seen_from, silenced


def grower(view, libraries=None, classes=None):
    """A function that tells whether a place grows."""
    world = view.caller.world
    libraries = world.library_names() if libraries is None else list(libraries)
    classes = world.class_names() if classes is None else list(classes)
    taken = {("name", library, name) for library in world.library_names() for name in world.names_of(library)}
    taken |= {("member", owner, name) for owner in world.class_names() for name in world.members_of(owner)}
    taken |= {("spread", library, *row[:2]) for library in world.library_names() for row in world.spreads_of(library)}
    return lambda place: place not in taken and place[1] in (classes if place[0] == "member" else libraries)


def starts_of(caller):
    return [entry[1] for entry in caller.imports if entry[0] == "all"]


def in_order(world, library):
    """The libraries that a library reaches, in the told order."""
    found = [library]
    for one in found:
        found.extend(other for other in world.gives_of(one) if other not in found)
    return found


def demanded(view, libraries=None, classes=None):
    """The demands on a paper of a right caller."""
    caller, world, grows = view.caller, view.caller.world, grower(view, libraries, classes)
    rows = []
    for i, use in enumerate(caller.uses):
        places = {spot: place for spot, place, _ in facts(view, use)}
        rows.extend(("use", i, spot) for spot in view.spots(i) if places[spot] and grows(places[spot]))
    for i, entry in enumerate(caller.imports):
        if entry[0] == "named":
            rows.extend(("import", i, y) for y in in_order(world, entry[1]) if grows(("name", y, entry[2])))
    met = set().union(*[reach(world, start) for start in starts_of(caller)])
    order = [library for library in world.library_names() if library in met]
    if view.book.alls == "once":
        names = sorted({name for library in met for name in world.names_of(library)})
        rows.extend(("once", n, y) for n in names for y in order if grows(("name", y, n)))
        # Nothing has this name, so its place grows exactly if the library does.
        order = [library for library in order if grows(("name", library, "zzzzzzzz"))]
        rows.extend(("risk", a, b) for at, a in enumerate(order) for b in order[at + 1:])
    if view.book.marks:
        for owner, _, members in caller.classes:
            for name in [name for name, _, marked in members if not marked]:
                above = [c for c in caller.chain(owner) if c in world.class_names()]
                rows.extend(("mark", owner, name, c) for c in above if grows(("member", c, name)))
    return rows


def fenced(world, library, stop, other, row):
    """Whether a tuple of libraries is a fence."""
    if stop == other:
        return False
    if library == stop:
        return len(row) == 0
    closed = all(after in row or after == stop for inside in row for after in world.gives_of(inside))
    return library in row and stop not in row and other not in row and closed


def all_tuples(world):
    """All tuples of libraries of a world, but for their orders."""
    rows = [()]
    for name in world.library_names():
        rows = rows + [(*row, name) for row in rows]
    return rows


def questions(view, demand, first):
    """The tuples (library, stop, other) for which a row has to have fences, or None if no fences can help it."""
    caller, world, book = view.caller, view.caller.world, view.book
    if demand[0] == "use":
        use, spot = caller.uses[demand[1]], demand[2]
        if first not in [row[0] for row in facts(view, use) if row[2] is not None] or not silenced(view, use, first, spot):
            return None
        if first[0] == "of":
            return [(use[1], first[1], spot[1])]
        if first[0] in ("named", "all") and first[:2] == spot[:2]:
            return [(caller.imports[first[1]][1], first[2], spot[2])]
        return []
    if demand[0] == "mark" or book.given != "own":
        return None
    if demand[0] == "risk":
        pairs = {demand[1]: demand[1:], demand[2]: demand[:0:-1]}
        return [(start, *pairs[first]) for start in starts_of(caller)] if first in pairs else None
    starts, name = starts_of(caller), demand[1]
    if demand[0] == "import":
        _, start, name, _ = caller.imports[demand[1]]
        starts = [start]
    (holder,) = {x for start in starts for x in seen_from(world, book, start, name)}
    pairs = {"behind": (holder, demand[2]), "ahead": (demand[2], holder)}
    return [(start, *pairs[first]) for start in starts] if first in pairs else None


def met(view, demand, row):
    """Whether a tuple of five items of the right kinds is a row that meets a demand."""
    asked = questions(view, demand, row[3])
    if row[:3] != demand or asked is None:
        return False
    fences = row[4]
    if demand[0] in ("use", "import"):
        fences = (fences,) if asked else ()
        if not asked and row[4] != ():
            return False
    return len(fences) == len(asked) and all(fenced(view.caller.world, *ask, fence) for ask, fence in zip(asked, fences))


def meeting_rows(view, demand, most=2):
    """Rows that meet a demand: with each first word or keeper that can, and with some fences of each kind."""
    caller, found = view.caller, []
    firsts = {"risk": demand[1:], "import": ("ahead", "behind"), "once": ("ahead", "behind"), "mark": ()}.get(demand[0])
    if demand[0] == "use":
        firsts = [row[0] for row in facts(view, caller.uses[demand[1]])]
    for first in firsts:
        asked = questions(view, demand, first)
        if asked is not None:
            rows = all_tuples(caller.world)
            parts = [[row for row in rows if fenced(caller.world, *ask, row)][:most] for ask in asked]
            for fences in product(*parts):
                alone = fences[0] if fences else ()
                found.append((*demand, first, alone if demand[0] in ("use", "import") else fences))
    return found
