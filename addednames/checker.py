"""The checker of papers: each of its steps looks at a single row, fence or place."""

from addednames.additions import Addition, is_place
from addednames.cases import TOUCHING_WORDS
from addednames.effects import effect, new_thing
from addednames.errors import UnknownName
from addednames.given import seen
from addednames.growth import growing, grows
from addednames.papers import demands
from addednames.problems import holder_at_once, is_right
from addednames.spots import common_start, libraries_of_alls
from addednames.words import is_equal, is_tuple, is_word

SIDES = ("ahead", "behind")


def is_fence(world, library, stop, other, value):
    """Whether any value is a fence from a library with a stop against another library."""
    for name in (library, stop, other):
        if not world.has_library(name):
            raise UnknownName(name)
    if stop == other or not isinstance(value, tuple) or not all([world.has_library(item) for item in value]):
        return False
    if library == stop:
        return value == ()
    inside = {item: True for item in value}
    if library not in inside or stop in inside or other in inside:
        return False
    nearest = [following for item in inside for following in world.gives_of(item)]
    return all([following in inside or following == stop for following in nearest])


def meets(view, demand, value):
    """Whether any value is a row that meets a demand of a right caller."""
    kind = demand[0]
    # Each row is a demand with two items behind it.
    if kind == "mark" or not is_tuple(value, 5) or not is_equal(value[:3], demand):
        return False
    if kind == "use":
        return _meets_use(view, demand, value[3], value[4])
    if view.book.given != "own":
        return False
    if kind == "import":
        return _meets_import(view, demand, value[3], value[4])
    if kind == "once":
        return _meets_once(view, demand, value[3], value[4])
    return _meets_risk(view, demand, value[3], value[4])


def accepts(view, value, *, libraries=None, classes=None):
    """Whether any value is a paper for a caller."""
    grown = growing(view, libraries, classes)
    if not is_right(view):
        return False
    if is_tuple(value, 2) and is_word(value[0], ("safe",)):
        return _meet_all(view, demands(view, libraries=libraries, classes=classes), value[1])
    if is_tuple(value, 3) and is_word(value[0], ("touched",)) and is_word(value[1], TOUCHING_WORDS):
        return _are_unlike_places(view.caller.world, grown, value[2]) and _effect_at(view, value[2]) == value[1]
    return False


def _meets_use(view, demand, keeper, fence):
    _, index, spot = demand
    if not any([is_equal(keeper, one) for one, _ in view.tellers(index)]) or not view.silences(index, keeper, spot):
        return False
    start = common_start(view.caller, view.caller.uses[index], keeper, spot)
    if start is None:
        return is_equal(fence, ())
    return is_fence(view.caller.world, start, keeper[-1], spot[-1], fence)


def _meets_import(view, demand, word, fence):
    _, index, library = demand
    _, start, name, _ = view.caller.imports[index]
    holder = seen(view.caller.world, view.book, start, name)[0]
    return _are_sided_fences(view, [start], (holder, library), word, (fence,))


def _meets_once(view, demand, word, fences):
    _, name, library = demand
    starts = libraries_of_alls(view.caller)
    return _are_sided_fences(view, starts, (holder_at_once(view, name), library), word, fences)


def _meets_risk(view, demand, keeper, fences):
    _, one, other = demand
    if not is_word(keeper, (one, other)):
        return False
    return _are_fences(view, libraries_of_alls(view.caller), keeper, other if keeper == one else one, fences)


def _are_sided_fences(view, starts, pair, word, fences):
    """Whether a word is right for a holder and another library, with fences from some libraries that show it."""
    if not is_word(word, SIDES):
        return False
    holder, other = pair
    stop, back = (holder, other) if word == "behind" else (other, holder)
    return _are_fences(view, starts, stop, back, fences)


def _are_fences(view, starts, stop, other, fences):
    """Whether any value is a tuple with a fence from each of some libraries, in order."""
    if not is_tuple(fences, len(starts)):
        return False
    world = view.caller.world
    return all([is_fence(world, start, stop, other, fence) for start, fence in zip(starts, fences)])


def _meet_all(view, wanted, rows):
    """Whether any value is a tuple with a row for each demand, in order."""
    if not is_tuple(rows, len(wanted)):
        return False
    return all([meets(view, demand, row) for demand, row in zip(wanted, rows)])


def _are_unlike_places(world, grown, value):
    """Whether any value is a tuple of one or two unlike growing places."""
    if not is_tuple(value, 1) and not is_tuple(value, 2):
        return False
    if not all([is_place(place) and grows(world, grown, place) for place in value]):
        return False
    return len(value) == 1 or value[0] != value[1]


def _effect_at(view, places):
    """The effect of new things at some places, all together."""
    caller, additions = view.caller, []
    for place in places:
        addition = Addition(place, new_thing(caller))
        additions.append(addition)
        caller = caller + addition
    return effect(view, *additions)
