"""What several tests use."""

from addednames import errors

# Each error class below NamesError, with the name of its attribute.
NAMES_ERRORS = {
    "BadPlace": "place",
    "BadThing": "thing",
    "BadClass": "index",
    "BadLibrary": "index",
    "BadImport": "index",
    "BadOwn": "index",
    "BadScope": "index",
    "BadUse": "index",
    "BadPart": "part",
    "BadSpot": "spot",
    "AlreadyThere": "place",
    "NotRight": "problems",
    "NotTouched": "addition",
    "UnknownCase": "label",
    "BadName": "name",
    "BadAddition": "value",
    "BadMove": "move",
    "BadText": "index",
    "BadCommand": "line",
    "BadBook": "value",
    "FailedDeed": "index",
}
# The others, with the class below which they stand and the name of their attribute.
OTHER_ERRORS = {
    "UnknownName": (KeyError, "name"),
    "UnknownThing": (KeyError, "thing"),
    "NoUse": (IndexError, "index"),
    "TooMany": (OverflowError, "limit"),
}
ATTRIBUTES = {**NAMES_ERRORS, **{name: row[1] for name, row in OTHER_ERRORS.items()}}

# Values of every kind that are neither names nor things.
STRANGE = (
    None,
    True,
    False,
    0,
    -1,
    "",
    "A",
    "a1",
    "abcdefghi",
    b"a",
    [],
    ["a"],
    (),
    ("a",),
    {},
    {"a": 1},
    {1},
    object(),
    len,
    int,
)


class Greedy:
    """A value that says that it is equal to everything."""

    def __eq__(self, other):
        return True

    def __hash__(self):
        return 0


class Touchy:
    """A value that can neither be compared nor hashed."""

    def __eq__(self, other):
        raise AssertionError("compared")

    def __hash__(self):
        raise AssertionError("hashed")

    def __bool__(self):
        raise AssertionError("tested")


def same(one, other):
    """Whether two values are equal and of the same kinds (True is not 1) throughout."""
    if type(one) is not type(other):
        return False
    if isinstance(one, (list, tuple)):
        return len(one) == len(other) and all(same(a, b) for a, b in zip(one, other))
    if isinstance(one, dict):
        return same(list(one.items()), list(other.items()))
    return one is other or one == other


def expect(test, wanted, value):
    """Fails unless the value is the wanted one, of the same kinds, and dicts in the same order."""
    test.assertTrue(same(wanted, value), f"wanted {wanted!r}, got {value!r}")


def expect_error(test, name, value, call, *args, **named):
    """Fails unless the call raises exactly this error of the package, about exactly this value."""
    error = getattr(errors, name)
    with test.assertRaises(error) as caught:
        call(*args, **named)
    test.assertIs(type(caught.exception), error)
    kept = getattr(caught.exception, ATTRIBUTES[name])
    test.assertTrue(same(value, kept), f"wanted {value!r}, got {kept!r}")
