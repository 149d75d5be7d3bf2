"""Names, things, and the plain forms of which all entries are made."""

MOST_LETTERS = 8
LAST_THING = 1000000000


def is_name(value):
    """Whether any value is a name: one to eight letters from a to z."""
    if not isinstance(value, str) or not 1 <= len(value) <= MOST_LETTERS:
        return False
    return all(["a" <= letter <= "z" for letter in value])


def is_thing(value):
    """Whether any value is a thing: an integer from 1 to 1000000000."""
    return is_integer(value) and 1 <= value <= LAST_THING


def is_integer(value):
    """Whether any value is an integer."""
    return isinstance(value, int) and not isinstance(value, bool)


def is_index(value, many):
    """Whether any value is the index of one of so many entries."""
    return is_integer(value) and 0 <= value < many


def is_word(value, words):
    """Whether any value is one of some strings."""
    return isinstance(value, str) and value in words


def is_list(value):
    """Whether any value may stand where a list is asked for."""
    return isinstance(value, (list, tuple))


def is_tuple(value, many):
    """Whether any value is a tuple of so many items."""
    return isinstance(value, tuple) and len(value) == many


def are_names(value):
    """Whether any value is a list of names."""
    return is_list(value) and all([is_name(item) for item in value])


def are_named_things(value):
    """Whether any value is a list of tuples (name, thing)."""
    return is_list(value) and all([is_named_thing(item) for item in value])


def is_named_thing(value):
    """Whether any value is a tuple (name, thing)."""
    return is_tuple(value, 2) and is_name(value[0]) and is_thing(value[1])


def has_twice(values):
    """Whether a list of names, or of tuples of names, has one of them twice."""
    return len(set(values)) < len(values)


def is_equal(value, wanted):
    """Whether any value is equal to a string, an integer or a tuple of such, and of the same kinds throughout."""
    # Kinds are told first, because True is equal to 1, and because a value of another kind may be equal to everything.
    if isinstance(wanted, tuple):
        return is_tuple(value, len(wanted)) and all([is_equal(one, other) for one, other in zip(value, wanted)])
    if isinstance(wanted, str):
        return isinstance(value, str) and value == wanted
    return is_integer(value) and value == wanted
