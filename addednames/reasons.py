"""Parts of callers, and the parts that show why an addition touches a caller."""

from addednames.effects import behind, effect, touched_uses
from addednames.errors import NotTouched
from addednames.given import seen
from addednames.parts import part_of_imports, part_of_member, part_of_use
from addednames.problems import holder_at_once, problems
from addednames.ways import seen_beside, standing


def is_part(part, caller):
    """Whether a caller is a part of another one."""
    return (
        part.world == caller.world
        and _are_some(part.imports, caller.imports, _is_same)
        and _are_some(part.own, caller.own, _is_same)
        and _are_some(part.classes, caller.classes, _is_class_of)
        and _fits_uses(part, caller)
    )


def reason(view, addition):
    """A label and a part of the caller that show how an addition touches it."""
    if effect(view, addition) == "stays":
        raise NotTouched(addition)
    found = problems(behind(view, addition))
    if not found:
        return _reason_of_use(view, addition, touched_uses(view, addition)[0])
    kind, at, *rest = found[0]
    if kind == "import":
        return _reason_of_import(view, addition, at)
    if kind == "once":
        return _reason_of_once(view, addition)
    if kind == "mark":
        return ("mark", "member", ""), part_of_member(view.caller, at, rest[0])
    return _reason_of_use(view, addition, at)


def _are_some(few, many, fits):
    """Whether entries fit some of others, in the same order."""
    met = 0
    for entry in many:
        if met < len(few) and fits(few[met], entry):
            met = met + 1
    return met == len(few)


def _is_same(one, other):
    return one == other


def _is_class_of(one, other):
    return one[:2] == other[:2] and _are_some(one[2], other[2], _is_same)


def _is_scope_of(one, other):
    if one[0] != other[0]:
        return False
    return one[2] == other[2] if one[0] == "body" else _are_some(one[2], other[2], _is_same)


def _fits_uses(part, caller):
    if len(part.uses) > 1:
        return False
    if not part.uses or part.uses[0][0] != "name":
        return not part.scopes and _are_some(part.uses, caller.uses, _is_same)
    many = len(part.scopes)
    parents = [None, *list(range(many))]
    if [scope[1] for scope in part.scopes] != parents[:many] or part.uses[0][1] != parents[many]:
        return False
    starts = [at for kind, at, name in caller.uses if kind == "name" and name == part.uses[0][2]]
    rows = [[caller.scopes[scope] for scope in caller.around(start)[::-1]] for start in starts]
    return any([_are_some(part.scopes, row, _is_scope_of) for row in rows])


def _reason_of_import(view, addition, index):
    _, library, name, _ = view.caller.imports[index]
    world = view.caller.world
    found = seen(world, view.book, library, name)[0]
    how = standing(world, library, addition.place[1], found)
    return ("import", "named", how), part_of_imports(view.caller, [index])


def _reason_of_once(view, addition):
    caller, book = view.caller, view.book
    world, added = caller.world, addition.place[1]
    found = holder_at_once(view, addition.name)
    alls = [(index, entry[1]) for index, entry in enumerate(caller.imports) if entry[0] == "all"]
    old = [index for index, library in alls if found in seen_beside(world, book, library, added)]
    new = [index for index, library in alls if added in seen_beside(world, book, library, found)]
    both = [index for index in old if index in new]
    if both:
        how = standing(world, caller.imports[both[0]][1], added, found)
        return ("once", "all", how), part_of_imports(caller, both[:1])
    return ("once", "all", "other"), part_of_imports(caller, sorted([old[0], new[0]], key=int))


def _reason_of_use(view, addition, index):
    rows = behind(view, addition).foremost(index)
    added = [spot for spot, thing in rows if thing == addition.thing]
    clashing = [spot for spot, thing in rows if thing != addition.thing]
    if clashing:
        found, new = clashing[0], added[0]
    else:
        # Each spot that was foremost is silenced by some foremost spot at which the addition is seen.
        found = view.foremost(index)[0][0]
        new = [spot for spot in added if view.silences(index, spot, found)][0]
    label = (found[0], new[0], _how(view.caller, index, found, new))
    return label, part_of_use(view.caller, index, [found, new])


def _how(caller, index, found, new):
    """How the spot at which an addition is seen stands to the spot of what was found."""
    if found[0] != new[0]:
        return ""
    if found[0] in ("elder", "member"):
        return "nearer"
    if found[0] == "spread":
        return _how_far(found[2], new[2])
    if found[0] == "of":
        return standing(caller.world, caller.uses[index][1], new[1], found[1])
    if found[1] == new[1]:
        return standing(caller.world, caller.imports[found[1]][1], new[2], found[2])
    if found[0] == "named":
        return "other"
    return "earlier" if new[1] < found[1] else "later"


def _how_far(found, new):
    if found == new:
        return "level"
    return "nearer" if new < found else "farther"
