"""The libraries and classes that grow, and the places at which things can be added."""

from addednames.errors import UnknownName


def growing(view, libraries, classes):
    """A dict of the first two items of all places that may grow, for libraries and classes that grow."""
    world = view.caller.world
    libraries = world.library_names() if libraries is None else libraries
    classes = world.class_names() if classes is None else classes
    for library in libraries:
        if not world.has_library(library):
            raise UnknownName(library)
    for owner in classes:
        if not world.has_class(owner):
            raise UnknownName(owner)
    starts = [*[("name", one) for one in libraries], *[("spread", one) for one in libraries]]
    starts.extend([("member", one) for one in classes])
    return {start: True for start in starts}


def grows(world, grown, place):
    """Whether a place grows; of a spread the class need not be one of the world."""
    if place[:2] not in grown or (place[0] == "spread" and not world.has_class(place[2])):
        return False
    return world.thing_at(place) is None
