"""Whether a caller is safe, what has to be shown for it, and papers that show it."""

from addednames.given import reached, reached_past, seen
from addednames.growth import growing, grows
from addednames.problems import all_names, check_right, holder_at_once, is_right
from addednames.silences import spot_silences
from addednames.spots import common_start, libraries_behind_alls, libraries_of_alls, place_at
from addednames.touching import fresh_name, risks, touching


def is_safe(view, *, libraries=None, classes=None):
    """Whether a caller is right, and no additions at growing places touch it."""
    growing(view, libraries, classes)
    if not is_right(view):
        return False
    grown = {"libraries": libraries, "classes": classes}
    return not touching(view, **grown) and not risks(view, **grown)


def demands(view, *, libraries=None, classes=None):
    """What the rows of a paper have to show, in order."""
    grown = growing(view, libraries, classes)
    check_right(view)
    return [
        *_use_demands(view, grown),
        *_import_demands(view, grown),
        *_once_demands(view, grown),
        *_risk_demands(view, grown),
        *_mark_demands(view, grown),
    ]


def paper(view, *, libraries=None, classes=None):
    """A paper that shows that a right caller is safe, or which places touch it."""
    grown = {"libraries": libraries, "classes": classes}
    touched = touching(view, **grown)
    if touched:
        place, word = touched[0]
        return "touched", word, (place,)
    pairs = risks(view, **grown)
    if pairs:
        name = fresh_name(view.caller)
        return "touched", "breaks", tuple([("name", library, name) for library in pairs[0]])
    return "safe", tuple([_row(view, demand) for demand in demands(view, **grown)])


def _use_demands(view, grown):
    caller, found = view.caller, []
    for index, use in enumerate(caller.uses):
        places = [(spot, place_at(caller, use, spot)) for spot in view.spots(index)]
        spots = [spot for spot, place in places if place is not None and grows(caller.world, grown, place)]
        found.extend([("use", index, spot) for spot in spots])
    return found


def _import_demands(view, grown):
    world, found = view.caller.world, []
    for index, entry in enumerate(view.caller.imports):
        if entry[0] == "named":
            met = [library for library in reached(world, entry[1]) if grows(world, grown, ("name", library, entry[2]))]
            found.extend([("import", index, library) for library in met])
    return found


def _once_demands(view, grown):
    if view.book.alls != "once":
        return []
    world, libraries = view.caller.world, _growing_behind_alls(view, grown)
    return [
        ("once", name, library)
        for name in all_names(view)
        for library in libraries
        if grows(world, grown, ("name", library, name))
    ]


def _risk_demands(view, grown):
    if view.book.alls != "once":
        return []
    libraries = _growing_behind_alls(view, grown)
    return [("risk", one, other) for index, one in enumerate(libraries) for other in libraries[index + 1:]]


def _mark_demands(view, grown):
    if not view.book.marks:
        return []
    caller, found = view.caller, []
    for owner, _, members in caller.classes:
        for name in [name for name, _, marked in members if not marked]:
            above = [other for other in caller.chain(owner) if grows(caller.world, grown, ("member", other, name))]
            found.extend([("mark", owner, name, other) for other in above])
    return found


def _growing_behind_alls(view, grown):
    """The growing libraries that the libraries of imports of all names reach, in the order of the world."""
    met = libraries_behind_alls(view.caller)
    return [library for library in view.caller.world.library_names() if library in met and ("name", library) in grown]


def _row(view, demand):
    """A row that meets a demand of a safe caller."""
    if demand[0] == "use":
        return _use_row(view, demand)
    if demand[0] == "import":
        _, index, library = demand
        _, start, name, _ = view.caller.imports[index]
        holder = seen(view.caller.world, view.book, start, name)[0]
        keeper, fences = _keeper_and_fences(view, [start], holder, library)
        return (*demand, "behind" if keeper == holder else "ahead", fences[0])
    starts = libraries_of_alls(view.caller)
    if demand[0] == "once":
        _, name, library = demand
        holder = holder_at_once(view, name)
        keeper, fences = _keeper_and_fences(view, starts, holder, library)
        return (*demand, "behind" if keeper == holder else "ahead", fences)
    keeper, fences = _keeper_and_fences(view, starts, demand[1], demand[2])
    return (*demand, keeper, fences)


def _use_row(view, demand):
    _, index, spot = demand
    caller, use = view.caller, view.caller.uses[index]
    tellers = [one for one, _ in view.tellers(index)]
    keeper = [one for one in tellers if spot_silences(caller, view.book, use, one, spot)][0]
    start = common_start(caller, use, keeper, spot)
    return (*demand, keeper, () if start is None else _fence(caller.world, start, keeper[-1]))


def _keeper_and_fences(view, starts, one, other):
    """The one of two libraries through which all ways to the other one lead, with a fence from each start."""
    fences = [_fence(view.caller.world, start, one) for start in starts]
    if not any([other in fence for fence in fences]):
        return one, tuple(fences)
    return other, tuple([_fence(view.caller.world, start, other) for start in starts])


def _fence(world, start, stop):
    return tuple(reached_past(world, start, stop))
