"""What additions do to a caller."""

from addednames.problems import check_right, is_right
from addednames.views import View


def behind(view, *additions):
    """The view of the caller with the additions, one after the other."""
    caller = view.caller
    for addition in additions:
        caller = caller + addition
    return View(caller, view.book)


def effect(view, *additions):
    """Whether additions break a right caller, change what a use finds, or let all stay."""
    check_right(view)
    later = behind(view, *additions)
    if not is_right(later):
        return "breaks"
    return "changes" if later.results() != view.results() else "stays"


def touched_uses(view, *additions):
    """The indexes of the uses of a right caller that do not find, behind additions, what they found."""
    check_right(view)
    found = view.results()
    later = behind(view, *additions).results()
    return [index for index in range(len(found)) if later[index] != found[index]]


def places_for(world, names):
    """Yields all places for some names at which there is no thing."""
    for name in list(names):
        for place in _places_of(world, name):
            if world.thing_at(place) is None:
                yield place


def new_thing(caller):
    """The least thing that neither a caller nor its world has."""
    thing = 1
    while thing in caller or thing in caller.world:
        thing = thing + 1
    return thing


def _places_of(world, name):
    libraries, owners = world.library_names(), world.class_names()
    return [
        *[("name", library, name) for library in libraries],
        *[("member", owner, name) for owner in owners],
        *[("spread", library, owner, name) for library in libraries for owner in owners],
    ]
