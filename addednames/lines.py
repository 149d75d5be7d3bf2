"""The lines of written views: a line for each entry, and an entry for each line."""

from addednames.books import ORDERS, PARTS, WORDS, Book
from addednames.words import are_names, is_name, is_thing

INDEX_DIGITS = 3
THING_DIGITS = 10
# The lines of a view stand in the order of these numbers.
RANKS = {
    "book": 0,
    "class": 1,
    "library": 2,
    "named": 3,
    "all": 3,
    "whole": 3,
    "own": 4,
    "heir": 5,
    "block": 6,
    "body": 6,
    "use": 7,
    "member": 7,
    "of": 7,
}


def read_index(text):
    """The index that is written so, or None."""
    return _number(text, INDEX_DIGITS)


def book_words(book):
    """The words by which a book is written."""
    return [word for part in PARTS for word, value in _values_by_words(part).items() if value == book[part]]


def read_book_words(words):
    """The book that is written by some words, or None."""
    if len(words) != len(PARTS):
        return None
    parts = {}
    for part, word in zip(PARTS, words):
        values = _values_by_words(part)
        if word not in values:
            return None
        parts[part] = values[word]
    return Book(**parts)


def class_line(name, elder, members):
    """The line of a class of the world."""
    return " ".join(["class", name, *_elder_words(elder), *_named_words(members)])


def library_line(name, names, gives, spreads):
    """The line of a library."""
    given = [f">{library}" for library in gives]
    spread = [f"{owner}.{member}={thing}" for owner, member, thing in spreads]
    return " ".join(["library", name, *_named_words(names), *given, *spread])


def own_line(name, thing):
    """The line of an own name."""
    return f"own {name}={thing}"


def heir_line(name, elder, members):
    """The line of an own class."""
    words = [f"!{member}={thing}" if marked else f"{member}={thing}" for member, thing, marked in members]
    return " ".join(["heir", name, *_elder_words(elder), *words])


def scope_line(kind, parent, held):
    """The line of a scope."""
    words = _named_words(held) if kind == "block" else [held]
    return " ".join([kind, _index_word(parent), *words])


def use_line(kind, at, name):
    """The line of a use."""
    return f"use {_index_word(at)} {name}" if kind == "name" else f"{kind} {at} {name}"


def read_line(line):
    """A tuple (rank, entry) of a line, or None if it is none."""
    word, *words = line.split(" ")
    # Each kind of line has at least one word behind the first one.
    if word not in READERS or not words:
        return None
    read_words = READERS[word]
    entry = read_words(words)
    return None if entry is None else (RANKS[word], entry)


def _values_by_words(part):
    """A dict from the words by which the values of a part of books are written to the values."""
    if part == "order":
        return {order.replace(" ", "."): order for order in ORDERS}
    if part == "near":
        return {"near": True, "far": False}
    if part == "marks":
        return {"marked": True, "free": False}
    return {word: word for word in WORDS[part]}


def _elder_words(elder):
    return [] if elder is None else [f"<{elder}"]


def _named_words(rows):
    return [f"{name}={thing}" for name, thing in rows]


def _index_word(index):
    return "-" if index is None else str(index)


def _number(text, most):
    """The number that is written in at most so many digits, without leading zeros; otherwise None."""
    if not 1 <= len(text) <= most or not all(["0" <= sign <= "9" for sign in text]):
        return None
    return None if text.startswith("0") and len(text) > 1 else int(text)


def _named_thing(word):
    name, _, digits = word.partition("=")
    thing = _number(digits, THING_DIGITS)
    return (name, thing) if is_name(name) and is_thing(thing) else None


def _spread(word):
    owner, _, rest = word.partition(".")
    named = _named_thing(rest)
    return (owner, *named) if is_name(owner) and named is not None else None


def _member(word):
    marked = word.startswith("!")
    named = _named_thing(word[1:] if marked else word)
    return None if named is None else (*named, marked)


def _read_class(words):
    return _class_entry(words, _named_thing)


def _read_heir(words):
    return _class_entry(words, _member)


def _class_entry(words, read_member):
    elders = [word[1:] for word in words[1:2] if word.startswith("<")]
    members = [read_member(word) for word in words[1 + len(elders):]]
    if not are_names([words[0], *elders]) or None in members:
        return None
    return words[0], elders[0] if elders else None, members


def _read_library(words):
    name, *rest = words
    rows = [(_library_rank(word), word) for word in rest]
    names = [_named_thing(word) for rank, word in rows if rank == 0]
    gives = [word[1:] for rank, word in rows if rank == 1]
    spreads = [_spread(word) for rank, word in rows if rank == 2]
    ranks = [rank for rank, _ in rows]
    if ranks != sorted(ranks, key=int) or not are_names([name, *gives]) or None in [*names, *spreads]:
        return None
    return name, names, gives, spreads


def _library_rank(word):
    """Where a word of a library stands: own names come first, then libraries that it gives on, then spreads."""
    if word.startswith(">"):
        return 1
    return 2 if "." in word else 0


def _read_named(words):
    return ("named", *words) if len(words) == 3 and are_names(words) else None


def _read_all(words):
    return ("all", *words) if len(words) == 1 and are_names(words) else None


def _read_whole(words):
    return ("whole", *words) if len(words) == 1 and are_names(words) else None


def _read_own(words):
    return _named_thing(words[0]) if len(words) == 1 else None


def _read_block(words):
    held = [_named_thing(word) for word in words[1:]]
    return ("block", read_index(words[0]), held) if _is_index_word(words[0]) and None not in held else None


def _read_body(words):
    return _indexed("body", words)


def _read_use(words):
    return _indexed("name", words)


def _read_member(words):
    return ("member", *words) if len(words) == 2 and are_names(words) else None


def _read_of(words):
    return ("of", *words) if len(words) == 2 and are_names(words) else None


def _indexed(kind, words):
    """The entry of a body, or of a use of the kind name."""
    if len(words) != 2 or not _is_index_word(words[0]) or not is_name(words[1]):
        return None
    return kind, read_index(words[0]), words[1]


def _is_index_word(word):
    return word == "-" or read_index(word) is not None


READERS = {
    "book": read_book_words,
    "class": _read_class,
    "library": _read_library,
    "named": _read_named,
    "all": _read_all,
    "whole": _read_whole,
    "own": _read_own,
    "heir": _read_heir,
    "block": _read_block,
    "body": _read_body,
    "use": _read_use,
    "member": _read_member,
    "of": _read_of,
}
