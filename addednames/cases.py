"""The labels, a case for each of them, and the tables of the books."""

from addednames.additions import Addition
from addednames.callers import Caller
from addednames.effects import new_thing
from addednames.errors import BadPart, UnknownCase
from addednames.samples import CLASSES, IMPORTS, LIBRARIES, OTHERS, SAMPLES
from addednames.words import is_tuple, is_word
from addednames.worlds import World

WAYS = ("ahead", "beside", "behind")
KINDS = ("name", "member", "spread")
TOUCHING_WORDS = ("changes", "breaks")


def labels():
    """All labels, in order."""
    return list(SAMPLES)


def case(label):
    """A caller and an addition for a label: the addition has the effect of the table under each book."""
    if not is_label(label):
        raise UnknownCase(label)
    libraries, classes, imports, others, place = SAMPLES[label]
    world = World(LIBRARIES[libraries], CLASSES[classes])
    own, heirs, scopes, uses = OTHERS[others]
    caller = Caller(world, IMPORTS[imports], own=own, classes=heirs, scopes=scopes, uses=uses)
    return caller, Addition(place, new_thing(caller))


def table(book):
    """The tuples (label, word) of a book, for all labels in order."""
    return [(label, _word(book, label)) for label in SAMPLES]


def can(book, kind, word):
    """The first label by which an addition of a kind has an effect under a book, or None."""
    if not is_word(kind, KINDS):
        raise BadPart(kind)
    if not is_word(word, TOUCHING_WORDS):
        raise BadPart(word)
    for label, told in table(book):
        if told == word and kind_of(label) == kind:
            return label
    return None


def is_label(value):
    """Whether any value is a label."""
    return is_tuple(value, 3) and all([isinstance(item, str) for item in value]) and value in SAMPLES


def kind_of(label):
    """The kind of the additions of a label."""
    added = label[1]
    if added == "spread":
        return "spread"
    return "member" if added in ("elder", "member") else "name"


def _word(book, label):
    found, added, how = label
    if found in ("mark", "once", "import"):
        return _word_without_use(book, found, how)
    if "elder" in (found, added):
        return _word_of_elders(book, found, added)
    if added in ("member", "spread"):
        return _word_of_members(book, found, added, how)
    if how in WAYS:
        return _word_of_ways(book, how)
    if how in ("earlier", "later"):
        return _word_of_alls(book, how)
    return _word_of_groups(book, found, added)


def _word_without_use(book, found, how):
    if found == "mark":
        return "breaks" if book.marks else "stays"
    apart = how in ("other", "beside") or book.given == "both"
    return "breaks" if apart and (found == "import" or book.alls == "once") else "stays"


def _word_of_elders(book, found, added):
    if found == "elder" and book.bodies == "never":
        return None
    if found == added:
        return "changes"
    return "changes" if book.bodies == ("behind" if added == "all" else "ahead") else "stays"


def _word_of_members(book, found, added, how):
    if found != added:
        return _word_if(book.spreads == "tie", book.spreads == added)
    return _word_if(added == "spread" and (how == "level" or not book.near), how == "nearer")


def _word_of_ways(book, how):
    return _word_if(how == "beside" or book.given == "both", how == "ahead")


def _word_of_alls(book, how):
    ahead = "first" if how == "earlier" else "last"
    return _word_if(book.alls in ("use", "once"), book.alls == ahead)


def _word_of_groups(book, found, added):
    # A named import that gives two things breaks, too; two named imports are level.
    level = book.rank(found) == book.rank(added) or (added == "named" and book.given == "both")
    return _word_if(level, book.rank(found) > book.rank(added))


def _word_if(level, ahead):
    """The effect of an addition that is level with what was found, that is ahead of it, or neither."""
    if level:
        return "breaks"
    return "changes" if ahead else "stays"
