"""Worlds: libraries and classes, and the things that stand at their places."""

from addednames.additions import Addition
from addednames.errors import AlreadyThere, BadClass, BadLibrary, BadThing, UnknownName, UnknownThing
from addednames.words import are_named_things, are_names, has_twice, is_list, is_name, is_thing, is_tuple


class World:
    """Libraries and classes, in order; it never changes."""

    def __init__(self, libraries=(), classes=()):
        _check_classes(classes)
        _check_libraries(libraries, {name: True for name, _, _ in classes})
        self._places = _checked_places(libraries, classes)
        self._classes = {name: (elder, dict(members)) for name, elder, members in classes}
        self._libraries = {
            name: (dict(names), tuple(gives), {(owner, member): thing for owner, member, thing in spreads})
            for name, names, gives, spreads in libraries
        }

    def library_names(self):
        """The names of the libraries, in order."""
        return list(self._libraries)

    def class_names(self):
        """The names of the classes, in order."""
        return list(self._classes)

    def has_library(self, value):
        """Whether any value is the name of a library."""
        return is_name(value) and value in self._libraries

    def has_class(self, value):
        """Whether any value is the name of a class."""
        return is_name(value) and value in self._classes

    def names_of(self, library):
        """The own names of a library with their things."""
        names, _, _ = self._library(library)
        return dict(names)

    def gives_of(self, library):
        """The libraries that a library gives on."""
        _, gives, _ = self._library(library)
        return list(gives)

    def spreads_of(self, library):
        """The spreads of a library, as tuples (class, name, thing)."""
        _, _, spreads = self._library(library)
        return [(owner, name, thing) for (owner, name), thing in spreads.items()]

    def elder_of(self, name):
        """The elder of a class, or None."""
        elder, _ = self._class(name)
        return elder

    def members_of(self, name):
        """The members of a class with their things."""
        _, members = self._class(name)
        return dict(members)

    def thing_at(self, place):
        """The thing at a place, or None."""
        if place[0] == "name":
            names, _, _ = self._library(place[1])
            return names.get(place[2])
        if place[0] == "member":
            _, members = self._class(place[1])
            return members.get(place[2])
        _, _, spreads = self._library(place[1])
        self._class(place[2])
        return spreads.get((place[2], place[3]))

    def _library(self, value):
        if not self.has_library(value):
            raise UnknownName(value)
        return self._libraries[value]

    def _class(self, value):
        if not self.has_class(value):
            raise UnknownName(value)
        return self._classes[value]

    def _library_rows(self):
        return [
            (name, list(self.names_of(name).items()), self.gives_of(name), self.spreads_of(name))
            for name in self._libraries
        ]

    def _class_rows(self):
        return [(name, elder, list(members.items())) for name, (elder, members) in self._classes.items()]

    def __len__(self):
        return len(self._places)

    def __contains__(self, x):
        return is_thing(x) and x in self._places

    def __getitem__(self, at):
        if at not in self:
            raise UnknownThing(at)
        return self._places[at]

    def __iter__(self):
        raise TypeError("a World cannot be iterated")

    def __add__(self, other):
        if not isinstance(other, Addition):
            return NotImplemented
        if self.thing_at(other.place) is not None:
            raise AlreadyThere(other.place)
        if other.thing in self:
            raise BadThing(other.thing)
        libraries = [_grown_library(row, other) for row in self._library_rows()]
        classes = [_grown_class(row, other) for row in self._class_rows()]
        return World(libraries, classes)

    def __radd__(self, other):
        # Without this test a World and a Caller would hand a sum to each other without end.
        if not isinstance(other, Addition):
            return NotImplemented
        return self + other

    def __eq__(self, other):
        # Lists of entries are compared, because equal dicts may differ in the order of libraries and classes.
        return (
            isinstance(other, World)
            and list(self._libraries.items()) == list(other._libraries.items())
            and list(self._classes.items()) == list(other._classes.items())
        )


def _check_classes(classes):
    if not is_list(classes):
        raise BadClass(None)
    earlier = {}
    for index, entry in enumerate(classes):
        if not _is_class(entry) or not _fits_classes(entry, earlier):
            raise BadClass(index)
        earlier[entry[0]] = True


def _is_class(entry):
    if not is_tuple(entry, 3):
        return False
    name, elder, members = entry
    return is_name(name) and (elder is None or is_name(elder)) and are_named_things(members)


def _fits_classes(entry, earlier):
    name, elder, members = entry
    if name in earlier or has_twice([member for member, _ in members]):
        return False
    return elder is None or elder in earlier


def _check_libraries(libraries, owners):
    if not is_list(libraries):
        raise BadLibrary(None)
    # A library may give on a later one, so all names are collected ahead of the checks.
    known = {entry[0]: True for entry in libraries if _is_library(entry)}
    earlier = {}
    for index, entry in enumerate(libraries):
        if not _is_library(entry) or entry[0] in earlier or not _fits_world(entry, known, owners):
            raise BadLibrary(index)
        earlier[entry[0]] = True


def _is_library(entry):
    if not is_tuple(entry, 4):
        return False
    name, names, gives, spreads = entry
    return is_name(name) and are_named_things(names) and are_names(gives) and _are_spreads(spreads)


def _are_spreads(value):
    return is_list(value) and all([_is_spread(item) for item in value])


def _is_spread(value):
    return is_tuple(value, 3) and are_names(value[:2]) and is_thing(value[2])


def _fits_world(entry, known, owners):
    library, names, gives, spreads = entry
    if has_twice([name for name, _ in names]) or has_twice(gives) or library in gives:
        return False
    if has_twice([spread[:2] for spread in spreads]):
        return False
    return all([other in known for other in gives]) and all([spread[0] in owners for spread in spreads])


def _checked_places(libraries, classes):
    places = {}
    for thing, place in _things_with_places(libraries, classes):
        if thing in places:
            raise BadThing(thing)
        places[thing] = place
    return places


def _things_with_places(libraries, classes):
    rows = [(thing, ("member", owner, name)) for owner, _, members in classes for name, thing in members]
    for library, names, _, spreads in libraries:
        rows.extend([(thing, ("name", library, name)) for name, thing in names])
        rows.extend([(thing, ("spread", library, owner, name)) for owner, name, thing in spreads])
    return rows


def _grown_library(row, addition):
    library, names, gives, spreads = row
    if addition.place[:2] == ("name", library):
        return library, [*names, (addition.name, addition.thing)], gives, spreads
    if addition.place[:2] == ("spread", library):
        return library, names, gives, [*spreads, (addition.place[2], addition.name, addition.thing)]
    return row


def _grown_class(row, addition):
    name, elder, members = row
    if addition.place[:2] == ("member", name):
        return name, elder, [*members, (addition.name, addition.thing)]
    return row
