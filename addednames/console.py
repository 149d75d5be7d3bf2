"""A console: commands that lead a session, as lines."""

from addednames.errors import BadCommand
from addednames.lines import read_index
from addednames.moves import least_moves, moves
from addednames.papers import is_safe
from addednames.problems import is_right
from addednames.sessions import Session
from addednames.texts import read, read_book, read_place, write, write_place
from addednames.touching import risks, touching
from addednames.words import is_name

MOVE_WORDS = ("home", "spell", "whole")


class Console:
    """Commands on a session."""

    def __init__(self):
        self._session = None

    def run(self, line):
        """Makes a command; what it tells."""
        if not isinstance(line, str) or "\n" in line:
            raise BadCommand(line)
        word, space, text = line.partition(" ")
        if word == "load" and space:
            self._session = Session(read(text.replace("; ", "\n")))
            return "ok"
        if self._session is None:
            raise BadCommand(line)
        if line in TELLING:
            tell = TELLING[line]
            return tell(self._session)
        if not space or word not in DOING:
            raise BadCommand(line)
        do = DOING[word]
        answer = do(self._session, text)
        if answer is None:
            raise BadCommand(line)
        return answer


def _show(session):
    return write(session.view).replace("\n", "; ")


def _undo(session):
    session.undo()
    return "ok"


def _right(session):
    return "yes" if is_right(session.view) else "no"


def _safe(session):
    return "yes" if is_safe(session.view) else "no"


def _touch(session):
    return _joined([f"{write_place(place)} {word}" for place, word in touching(session.view)], "-")


def _risks(session):
    return _joined([f"{one} {other}" for one, other in risks(session.view)], "-")


def _moves(session):
    return _joined([_move_words(move) for move in moves(session.view)], "-")


def _least(session):
    sets = [_joined([_move_words(move) for move in chosen], "none") for chosen in least_moves(session.view)]
    return " | ".join(sets) if sets else "-"


def _note(session, text):
    name, space, rest = text.partition(" ")
    if not is_name(name) or not space:
        return None
    notes = session.notes
    notes[name] = read_place(rest)
    return "ok"


def _add(session, text):
    indexes = session.add(text if is_name(text) else read_place(text))
    return " ".join([str(index) for index in indexes]) if indexes else "-"


def _find(session, text):
    index = read_index(text)
    if index is None:
        return None
    view = session.view
    word, *things = view(index)
    return str(things[0]) if things else word


def _apply(session, text):
    chosen = [_read_move(words) for words in text.split("; ")]
    if None in chosen:
        return None
    session.apply(chosen)
    return "ok"


def _book(session, text):
    session.rebook(read_book(text))
    return "ok"


def _joined(words, empty):
    """Some words behind one another, or another word if there are none."""
    return "; ".join(words) if words else empty


def _move_words(move):
    word, index = move
    return f"{word} {index}"


def _read_move(words):
    """The move that is written so, or None."""
    word, _, digits = words.partition(" ")
    index = read_index(digits)
    return (word, index) if word in MOVE_WORDS and index is not None else None


# The commands without a text, and those with one; a function of these returns None for a text of the wrong form.
TELLING = {
    "show": _show,
    "undo": _undo,
    "right": _right,
    "safe": _safe,
    "touch": _touch,
    "risks": _risks,
    "moves": _moves,
    "least": _least,
}
DOING = {"note": _note, "add": _add, "find": _find, "apply": _apply, "book": _book}
