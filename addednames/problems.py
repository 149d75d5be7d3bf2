"""The problems of a caller under a book."""

from addednames.errors import NotRight
from addednames.given import given_names, gives, seen
from addednames.spots import libraries_of_alls


def problems(view):
    """The problems of a caller: those of its imports, names that clash at once, marks and uses."""
    return [*_import_problems(view), *_once_problems(view), *_mark_problems(view), *_use_problems(view)]


def is_right(view):
    """Whether a caller has no problems."""
    # Each kind of problems is looked for only if there are none of the kinds ahead of it.
    return not (_import_problems(view) or _once_problems(view) or _mark_problems(view) or _use_problems(view))


def check_right(view):
    """Raises NotRight if a caller has problems."""
    found = problems(view)
    if found:
        raise NotRight(found)


def at_once(world, book, libraries, name):
    """The things of the libraries that are seen for a name from one of some libraries, ascending."""
    holders = {holder: True for library in libraries for holder in seen(world, book, library, name)}
    return sorted([world.names_of(holder)[name] for holder in holders], key=int)


def holder_at_once(view, name):
    """The library that is seen for a name from the imports of all names, if it is the only one."""
    world = view.caller.world
    thing = at_once(world, view.book, libraries_of_alls(view.caller), name)[0]
    return world[thing][1]


def all_names(view):
    """The names that the imports of all names give, ascending."""
    world, book = view.caller.world, view.book
    libraries = libraries_of_alls(view.caller)
    names = {name: True for library in libraries for name in given_names(world, book, library)}
    return sorted(list(names), key=str)


def _import_problems(view):
    found = []
    for index, entry in enumerate(view.caller.imports):
        if entry[0] == "named" and gives(view.caller.world, view.book, entry[1], entry[2])[0] != "found":
            found.append(("import", index))
    return found


def _once_problems(view):
    if view.book.alls != "once":
        return []
    libraries = libraries_of_alls(view.caller)
    return [
        ("once", name)
        for name in all_names(view)
        if len(at_once(view.caller.world, view.book, libraries, name)) > 1
    ]


def _mark_problems(view):
    if not view.book.marks:
        return []
    found = []
    for owner, _, members in view.caller.classes:
        above = [view.caller.members_of(elder) for elder in view.caller.chain(owner)[1:]]
        for name, _, marked in members:
            if marked != any([name in held for held in above]):
                found.append(("mark", owner, name))
    return found


def _use_problems(view):
    return [("use", index) for index, result in enumerate(view.results()) if result[0] != "found"]
