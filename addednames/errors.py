"""The errors of the package: each one keeps the value that it tells of."""


class NamesError(ValueError):
    """The base of the errors that tell of a wrong value."""


class BadPlace(NamesError):
    """A value that is no place."""

    def __init__(self, place):
        self.place = place


class BadThing(NamesError):
    """A value that is no thing, or a thing that is there already."""

    def __init__(self, thing):
        self.thing = thing


class BadClass(NamesError):
    """A wrong entry of a list of classes, or None for a wrong list."""

    def __init__(self, index):
        self.index = index


class BadLibrary(NamesError):
    """A wrong entry of a list of libraries, or None for a wrong list."""

    def __init__(self, index):
        self.index = index


class BadImport(NamesError):
    """A wrong entry of a list of imports, or None for a wrong list."""

    def __init__(self, index):
        self.index = index


class BadOwn(NamesError):
    """A wrong entry of a list of own names, or None for a wrong list."""

    def __init__(self, index):
        self.index = index


class BadScope(NamesError):
    """A wrong entry of a list of scopes, None for a wrong list, or a value that is no scope."""

    def __init__(self, index):
        self.index = index


class BadUse(NamesError):
    """A wrong entry of a list of uses, or None for a wrong list."""

    def __init__(self, index):
        self.index = index


class BadPart(NamesError):
    """A part of a book with a wrong value, or a value that is no part."""

    def __init__(self, part):
        self.part = part


class BadSpot(NamesError):
    """A value that is no spot of a use."""

    def __init__(self, spot):
        self.spot = spot


class AlreadyThere(NamesError):
    """A place at which there is a thing."""

    def __init__(self, place):
        self.place = place


class NotRight(NamesError):
    """The problems of a caller that is not right."""

    def __init__(self, problems):
        self.problems = problems


class NotTouched(NamesError):
    """An addition that does not touch a caller."""

    def __init__(self, addition):
        self.addition = addition


class UnknownCase(NamesError):
    """A value that is no label."""

    def __init__(self, label):
        self.label = label


class BadName(NamesError):
    """A value that is no name, or a name without a place."""

    def __init__(self, name):
        self.name = name


class BadAddition(NamesError):
    """A value that is no addition."""

    def __init__(self, value):
        self.value = value


class BadMove(NamesError):
    """A value that is no move, or a move that comes twice."""

    def __init__(self, move):
        self.move = move


class BadText(NamesError):
    """A wrong line of a text, or None for a wrong text."""

    def __init__(self, index):
        self.index = index


class BadCommand(NamesError):
    """A value that is no command."""

    def __init__(self, line):
        self.line = line


class BadBook(NamesError):
    """A value that is no book."""

    def __init__(self, value):
        self.value = value


class FailedDeed(NamesError):
    """A deed that raised an error."""

    def __init__(self, index):
        self.index = index


class UnknownName(KeyError):
    """A value that is no library or no class."""

    def __init__(self, name):
        self.name = name


class UnknownThing(KeyError):
    """A value that is no thing of a world."""

    def __init__(self, thing):
        self.thing = thing


class NoUse(IndexError):
    """A value that is no index of a use."""

    def __init__(self, index):
        self.index = index


class TooMany(OverflowError):
    """The limit that was gone beyond."""

    def __init__(self, limit):
        self.limit = limit


class NothingToUndo(RuntimeError):
    """There is nothing that can be taken back."""

    def __init__(self):
        pass
