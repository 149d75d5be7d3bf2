"""A slow second reading of the document, by lists of ways and of facts, with which the program is compared."""


def ways(world, library):
    """All ways from a library that meet no library twice."""
    found, last = [], [[library]]
    while last:
        found.extend(last)
        last = [[*way, other] for way in last for other in world.gives_of(way[-1]) if other not in way]
    return found


def reach(world, library):
    return {way[-1] for way in ways(world, library)}


def cut_off(world, library, keeper, other):
    rows = [way for way in ways(world, library) if way[-1] == other]
    return keeper != other and rows != [] and all(keeper in way for way in rows)


def seen_from(world, book, library, name):
    held = {other for other in world.library_names() if name in world.names_of(other)}
    rows = [way for way in ways(world, library) if way[-1] in held]
    if book.given == "own":
        rows = [way for way in rows if not held & set(way[:-1])]
    return {way[-1] for way in rows}


def things_of(caller, scope):
    kind, _, held = caller.scopes[scope]
    return dict(held) if kind == "block" else caller.members_of(held)


def facts(view, use):
    """Tuples (spot, place, thing) for all spots of a use, in no told order; the place is None for own spots."""
    caller, world, (kind, at, name) = view.caller, view.caller.world, use
    rows = []
    if kind == "name":
        rows.append((("own",), None, dict(caller.own).get(name)))
        for k, scope in enumerate(caller.around(at)):
            rows.append((("scope", k), None, things_of(caller, scope).get(name)))
            if caller.scopes[scope][0] == "body" and view.book.bodies != "never":
                for d, owner in list(enumerate(caller.chain(caller.scopes[scope][2])))[1:]:
                    rows.append((("elder", k, d), *member_at(caller, owner, name)))
        for i, entry in enumerate(caller.imports):
            if entry[0] == "all":
                rows.extend((("all", i, x), *name_at(world, x, name)) for x in reach(world, entry[1]))
            if entry[0] == "named" and entry[3] == name:
                rows.extend((("named", i, x), *name_at(world, x, entry[2])) for x in reach(world, entry[1]))
    elif kind == "of":
        rows.extend((("of", x), *name_at(world, x, name)) for x in reach(world, at))
    else:
        met = set().union(*[reach(world, entry[1]) for entry in caller.imports if entry[0] == "all"])
        for d, owner in enumerate(caller.chain(at)):
            rows.append((("member", d), *member_at(caller, owner, name)))
            if owner in world.class_names():
                rows.extend((("spread", x, d), *spread_at(world, x, owner, name)) for x in met)
    return rows


def name_at(world, library, name):
    return ("name", library, name), world.names_of(library).get(name)


def member_at(caller, owner, name):
    place = ("member", owner, name) if owner in caller.world.class_names() else None
    return place, caller.members_of(owner).get(name)


def spread_at(world, library, owner, name):
    told = [thing for row_owner, row_name, thing in world.spreads_of(library) if (row_owner, row_name) == (owner, name)]
    return ("spread", library, owner, name), told[0] if told else None


def ahead(book, a, b):
    """Whether a spot of a use of the kind name is ahead of another one: by the place of both in one long row."""
    levels = [level.split("=") for level in book.order.split(" ")]
    row = []
    for k in range(5):
        row.append([("scope", k)])
        if book.bodies == "ahead":
            row.extend([("elder", k, d)] for d in range(1, 12))
    row.extend([("top", group) for group in level] for level in levels)
    if book.bodies == "behind":
        row.extend([("elder", k, d)] for k in range(5) for d in range(1, 12))

    def at(spot):
        key = spot if spot[0] in ("scope", "elder") else ("top", spot[0])
        return [index for index, level in enumerate(row) if key in level][0]

    return at(a) < at(b)


def silenced(view, use, a, b):
    """Whether spot a silences spot b: one test for each case of the document."""
    book, world, imports = view.book, view.caller.world, view.caller.imports
    kinds = (a[0], b[0])
    if a == b:
        return False
    cases = []
    if use[0] == "name":
        cases.append(ahead(book, a, b))
    if kinds == ("all", "all") and a[1] != b[1]:
        cases.append({"first": a[1] < b[1], "last": a[1] > b[1]}.get(book.alls, False))
    if kinds in (("all", "all"), ("named", "named")) and a[1] == b[1] and book.given == "own":
        cases.append(cut_off(world, imports[a[1]][1], a[2], b[2]))
    if kinds == ("of", "of") and book.given == "own":
        cases.append(cut_off(world, use[1], a[1], b[1]))
    if kinds == ("member", "member"):
        cases.append(a[1] < b[1])
    if kinds == ("spread", "spread") and book.near:
        cases.append(a[2] < b[2])
    if set(kinds) == {"member", "spread"}:
        cases.append(book.spreads == a[0])
    return any(cases)


def front(view, use):
    """The set of tuples (spot, thing) of the foremost spots."""
    rows = [(spot, thing) for spot, _, thing in facts(view, use) if thing is not None]
    return {(b, thing) for b, thing in rows if not any(silenced(view, use, a, b) for a, _ in rows)}


def finds(view, use):
    things = {thing for _, thing in front(view, use)}
    if len(things) == 1:
        return ("found", things.pop())
    return ("clash",) if things else ("nothing",)


def wrongs(view):
    """The problems of a caller."""
    caller, book, world = view.caller, view.book, view.caller.world
    rows = []
    for i, entry in enumerate(caller.imports):
        if entry[0] == "named" and len(seen_from(world, book, entry[1], entry[2])) != 1:
            rows.append(("import", i))
    alls = [entry[1] for entry in caller.imports if entry[0] == "all"]
    names = sorted({name for library in world.library_names() for name in world.names_of(library)})
    for name in names:
        if book.alls == "once" and len({x for start in alls for x in seen_from(world, book, start, name)}) > 1:
            rows.append(("once", name))
    for owner, _, members in caller.classes:
        for name, _, marked in members:
            above = [x for x in caller.chain(owner)[1:] if name in caller.members_of(x)]
            if book.marks and marked == (above == []):
                rows.append(("mark", owner, name))
    rows.extend(("use", i) for i, use in enumerate(caller.uses) if finds(view, use)[0] != "found")
    return rows
