"""Views that change, with an undo."""

from addednames.additions import Addition
from addednames.books import Book
from addednames.effects import behind, new_thing
from addednames.errors import BadBook, BadCommand, FailedDeed, NamesError, NothingToUndo, NoUse
from addednames.errors import TooMany, UnknownName, UnknownThing
from addednames.moves import moved
from addednames.notes import Notes
from addednames.views import View
from addednames.words import is_list, is_tuple, is_word

DEEDS = ("add", "apply", "rebook", "undo")


class SpentTrial(RuntimeError):
    """A trial has served for a block already."""

    def __init__(self):
        pass


class State:
    """The view and the additions of a session at one time, with the state before it; it never changes."""

    def __init__(self, current, made, before):
        self.current = current
        self.made = made
        self.before = before


class Trial:
    """A context manager that brings a session back to where it was; it serves for one block."""

    def __init__(self, session, keep):
        self._session = session
        # None stands for False, because the rows of __exit__ ask an attribute for None alone.
        self._kept = True if keep else None
        self._start = None

    def __enter__(self):
        if self._start is not None:
            raise SpentTrial()
        self._start = self._session._state
        return self._session

    def __exit__(self, kind, value, trace):
        session = self._session
        if self._kept is None or kind is not None:
            session._state = self._start


class Session:
    """A view that changes, with notes of places."""

    def __init__(self, view):
        self._state = State(view, (), None)
        self._notes = Notes()

    @property
    def view(self):
        """The view."""
        return self._state.current

    @property
    def caller(self):
        """The caller of the view."""
        return self._state.current.caller

    @property
    def rulebook(self):
        """The book of the view."""
        return self._state.current.book

    @rulebook.setter
    def rulebook(self, value):
        self.rebook(value)

    @property
    def notes(self):
        """The places with names."""
        return self._notes

    @property
    def added(self):
        """The additions that were made and not undone."""
        return self._state.made

    def add(self, place):
        """Adds a new thing at a place; the indexes of the uses whose results differ behind it."""
        earlier = self._state.current
        addition = Addition(self._noted(place), new_thing(earlier.caller))
        later = behind(earlier, addition)
        found, now = earlier.results(), later.results()
        self._go_on(later, (*self._state.made, addition))
        return [index for index, result in enumerate(found) if result != now[index]]

    def apply(self, chosen):
        """Makes some moves."""
        self._go_on(moved(self._state.current, chosen), self._state.made)

    def rebook(self, book):
        """Takes another book."""
        if not isinstance(book, Book):
            raise BadBook(book)
        self._go_on(View(self._state.current.caller, book), self._state.made)

    def undo(self):
        """Takes back the last deed."""
        if self._state.before is None:
            raise NothingToUndo()
        self._state = self._state.before

    def trial(self, *, keep=False):
        """A context manager; at the end of its block the session is as at its beginning, unless it is kept."""
        return Trial(self, keep)

    def attempt(self, deeds, *, keep=True):
        """Makes all of some deeds, or none of them; what they return."""
        if not _are_deeds(deeds):
            raise BadCommand(deeds)
        answers = []
        with self.trial(keep=keep):
            for index, (word, argument) in enumerate(deeds):
                try:
                    answers.append(self._answer(word, argument))
                except (NamesError, UnknownName, UnknownThing, NoUse, TooMany, NothingToUndo) as error:
                    raise FailedDeed(index) from error
        return answers

    def _answer(self, word, argument):
        if word == "add":
            return self.add(argument)
        if word == "apply":
            return self.apply(argument)
        return self.rebook(argument) if word == "rebook" else self.undo()

    def _go_on(self, later, made):
        self._state = State(later, made, self._state)

    def _noted(self, place):
        """The place itself, or the one that is noted under a name."""
        return self._notes[place] if isinstance(place, str) else place


def _are_deeds(value):
    """Whether any value is a list of deeds."""
    return is_list(value) and all([is_tuple(deed, 2) and is_word(deed[0], DEEDS) for deed in value])
