"""Callers: what imports from the libraries of a world, and uses names."""

from addednames.additions import Addition
from addednames.errors import BadClass, BadImport, BadOwn, BadScope, BadThing, BadUse
from addednames.words import are_named_things, are_names, has_twice, is_index, is_list, is_name
from addednames.words import is_named_thing, is_thing, is_tuple, is_word

MOST_SCOPES = 4


class Caller:
    """The imports, own names, own classes, scopes and uses of a caller of a world; it never changes."""

    def __init__(self, world, imports=(), *, own=(), classes=(), scopes=(), uses=()):
        _check_imports(imports, world)
        _check_own(own)
        _check_classes(classes, world)
        _check_scopes(scopes, classes)
        _check_uses(uses, world, imports, classes, scopes)
        self._things = _checked_things(own, classes, scopes, world)
        self._world = world
        self._imports = _tuples(imports)
        self._own = _tuples(own)
        self._classes = tuple([(name, elder, _tuples(members)) for name, elder, members in classes])
        self._scopes = tuple([_kept_scope(entry) for entry in scopes])
        self._uses = _tuples(uses)
        self._elders = {name: elder for name, elder, _ in classes}
        self._members = {owner: dict([member[:2] for member in members]) for owner, _, members in classes}

    @property
    def world(self):
        """The world of the caller."""
        return self._world

    @property
    def imports(self):
        """The imports, in order."""
        return self._imports

    @property
    def own(self):
        """The own names, as tuples (name, thing)."""
        return self._own

    @property
    def classes(self):
        """The own classes, as tuples (name, elder, members)."""
        return self._classes

    @property
    def scopes(self):
        """The scopes, in order."""
        return self._scopes

    @property
    def uses(self):
        """The uses, in order."""
        return self._uses

    def chain(self, name):
        """The chain of an own class or of a class of the world."""
        found = [name]
        elder = self._elder_of(name)
        while elder is not None:
            found.append(elder)
            elder = self._elder_of(elder)
        return found

    def members_of(self, name):
        """The members of an own class or of a class of the world, with their things."""
        if is_name(name) and name in self._members:
            return dict(self._members[name])
        return self._world.members_of(name)

    def around(self, scope):
        """The index of a scope, of its parent, and so on; an empty list for None."""
        if scope is not None and not is_index(scope, len(self._scopes)):
            raise BadScope(scope)
        found = []
        while scope is not None:
            found.append(scope)
            scope = self._scopes[scope][1]
        return found

    def with_uses(self, uses):
        """The caller with other uses."""
        return self._with(self._world, uses)

    def _elder_of(self, name):
        if is_name(name) and name in self._elders:
            return self._elders[name]
        return self._world.elder_of(name)

    def _with(self, world, uses):
        return Caller(
            world,
            self._imports,
            own=self._own,
            classes=self._classes,
            scopes=self._scopes,
            uses=uses,
        )

    def __len__(self):
        return len(self._uses)

    def __contains__(self, x):
        return is_thing(x) and x in self._things

    def __add__(self, other):
        if not isinstance(other, Addition):
            return NotImplemented
        return self._with(self._world + other, self._uses)

    def __radd__(self, other):
        # Without this test a World and a Caller would hand a sum to each other without end.
        if not isinstance(other, Addition):
            return NotImplemented
        return self + other

    def __eq__(self, other):
        return (
            isinstance(other, Caller)
            and self._world == other._world
            and self._imports == other._imports
            and self._own == other._own
            and self._classes == other._classes
            and self._scopes == other._scopes
            and self._uses == other._uses
        )


def _tuples(entries):
    return tuple([tuple(entry) for entry in entries])


def _kept_scope(entry):
    kind, parent, held = entry
    if kind == "block":
        held = _tuples(held)
    return kind, parent, held


def _check_imports(imports, world):
    if not is_list(imports):
        raise BadImport(None)
    for index, entry in enumerate(imports):
        if not _is_import(entry) or not world.has_library(entry[1]):
            raise BadImport(index)


def _is_import(entry):
    if is_tuple(entry, 4):
        return is_word(entry[0], ("named",)) and are_names(entry[1:])
    return is_tuple(entry, 2) and is_word(entry[0], ("all", "whole"))


def _check_own(own):
    if not is_list(own):
        raise BadOwn(None)
    earlier = {}
    for index, entry in enumerate(own):
        if not is_named_thing(entry) or entry[0] in earlier:
            raise BadOwn(index)
        earlier[entry[0]] = True


def _check_classes(classes, world):
    if not is_list(classes):
        raise BadClass(None)
    earlier = {}
    for index, entry in enumerate(classes):
        if not _is_class(entry) or not _fits_classes(entry, earlier, world):
            raise BadClass(index)
        earlier[entry[0]] = True


def _is_class(entry):
    if not is_tuple(entry, 3):
        return False
    name, elder, members = entry
    if not is_name(name) or not is_list(members):
        return False
    return (elder is None or is_name(elder)) and all([_is_member(member) for member in members])


def _is_member(value):
    return is_tuple(value, 3) and is_named_thing(value[:2]) and isinstance(value[2], bool)


def _fits_classes(entry, earlier, world):
    name, elder, members = entry
    if name in earlier or world.has_class(name) or has_twice([member for member, _, _ in members]):
        return False
    return elder is None or elder in earlier or world.has_class(elder)


def _check_scopes(scopes, classes):
    if not is_list(scopes):
        raise BadScope(None)
    owners = [name for name, _, _ in classes]
    depths = []
    for index, entry in enumerate(scopes):
        if not _is_scope(entry, owners, depths):
            raise BadScope(index)
        parent = entry[1]
        depths.append(1 if parent is None else depths[parent] + 1)


def _is_scope(entry, owners, depths):
    """Whether any value is a scope behind others, of which it is known how deep they stand."""
    if not is_tuple(entry, 3):
        return False
    kind, parent, held = entry
    if parent is not None and (not is_index(parent, len(depths)) or depths[parent] == MOST_SCOPES):
        return False
    if is_word(kind, ("block",)):
        return are_named_things(held) and not has_twice([name for name, _ in held])
    return is_word(kind, ("body",)) and is_name(held) and held in owners


def _check_uses(uses, world, imports, classes, scopes):
    if not is_list(uses):
        raise BadUse(None)
    owners = [*world.class_names(), *[name for name, _, _ in classes]]
    wholes = [entry[1] for entry in imports if entry[0] == "whole"]
    for index, entry in enumerate(uses):
        if not _is_use(entry, len(scopes), owners, wholes):
            raise BadUse(index)


def _is_use(entry, many, owners, wholes):
    """Whether any value is a use in one of so many scopes, on one of the owners, of one of the wholes."""
    if not is_tuple(entry, 3) or not is_name(entry[2]):
        return False
    kind, at, _ = entry
    if is_word(kind, ("name",)):
        return at is None or is_index(at, many)
    if is_word(kind, ("member",)):
        return is_name(at) and at in owners
    return is_word(kind, ("of",)) and is_name(at) and at in wholes


def _checked_things(own, classes, scopes, world):
    things = {}
    for thing in _listed_things(own, classes, scopes):
        if thing in things or thing in world:
            raise BadThing(thing)
        things[thing] = True
    return things


def _listed_things(own, classes, scopes):
    found = [thing for _, thing in own]
    for _, _, members in classes:
        found.extend([thing for _, thing, _ in members])
    for kind, _, held in scopes:
        if kind == "block":
            found.extend([thing for _, thing in held])
    return found
