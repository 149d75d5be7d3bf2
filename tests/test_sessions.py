import random
import unittest

from addednames import errors
from addednames.additions import Addition
from addednames.books import Book
from addednames.callers import Caller
from addednames.effects import new_thing
from addednames.errors import BadCommand, FailedDeed, NamesError, NotRight, NothingToUndo
from addednames.moves import moved, moves
from addednames.notes import Notes
from addednames.sessions import Session
from addednames.views import View
from addednames.worlds import World
from chance import all_additions, draw_book, right_views, views
from support import ATTRIBUTES, STRANGE, Greedy, Touchy, expect, expect_error, same

ANY = (*STRANGE, Greedy(), Touchy())
NO_PLACES = [value for value in ANY if not isinstance(value, str)]
NO_PLACES += [["name", "l", "a"], ("name", "l"), ("name", "l", "A"), ("Name", "l", "a"), Addition(("name", "l", "a"), 9)]
PLACE = ("name", "l", "a")
NO_DEEDS = (
    *[value for value in ANY if not same(value, []) and not same(value, ())],
    "undo",
    ("undo", None),
    ["undo"],
    [["undo", None]],
    [("undo",)],
    [("undo", None, None)],
    [("undo", None), None],
    [("undo", None), ("Undo", None)],
    [("add", PLACE), ("load", "")],
    [("add", PLACE), (Greedy(), PLACE)],
    [("add", PLACE), (["undo"], None)],
    {("undo", None): 1},
    ((("undo", None),),),
)


def small():
    """l gives on m, and m on n."""
    return World([("l", [], ["m"], []), ("m", [("a", 1)], ["n"], []), ("n", [], [], [])], [("k", None, [("x", 2)])])


def view(book=None, **parts):
    uses = [("name", None, "a"), ("member", "k", "x")]
    return View(Caller(small(), [("all", "l")], uses=uses, **parts), Book() if book is None else book)


def wrong():
    return View(Caller(small(), [("all", "l")], uses=[("name", None, "z")]), Book())


def state(session):
    """All that can be seen of a session."""
    return session.view, session.caller, session.rulebook, session.added, session.notes.listed()


class Base(unittest.TestCase):
    def check(self, session, wanted, added, notes=()):
        self.assertTrue(session.view == wanted)
        self.assertTrue(session.caller == wanted.caller)
        self.assertTrue(session.rulebook == wanted.book)
        self.assertIs(type(session.added), tuple)
        self.assertTrue(session.added == tuple(added))
        self.assertEqual(session.notes.listed(), list(notes))

    def check_undo(self, session, states):
        """The session goes back through these states, the last one first, and no farther."""
        for wanted, added in states[::-1]:
            expect(self, None, session.undo())
            self.check(session, wanted, added, session.notes.listed())
        for _ in range(2):
            with self.assertRaises(NothingToUndo):
                session.undo()


class SessionTest(Base):
    def test_the_beginning(self):
        for session in [Session(view()), Session(view=view())]:
            self.check(session, view(), [])
            self.assertIs(type(session.notes), Notes)
            self.assertIs(session.notes, session.notes)
            with self.assertRaises(NothingToUndo):
                session.undo()
        self.check(Session(wrong()), wrong(), [])

    def test_properties_are_not_assigned(self):
        session = Session(view())
        for word in ("view", "caller", "notes", "added"):
            with self.assertRaises(AttributeError):
                setattr(session, word, None)
        self.check(session, view(), [])

    def test_add(self):
        session = Session(view())
        expect(self, [0], session.add(PLACE))
        first = Addition(PLACE, 3)
        self.check(session, View(view().caller + first, Book()), [first])
        expect(self, [], session.add(place=("name", "n", "a")))
        second = Addition(("name", "n", "a"), 4)
        both = View(view().caller + first + second, Book())
        self.check(session, both, [first, second])
        self.check_undo(session, [(view(), []), (View(view().caller + first, Book()), [first])])

    def test_the_least_new_thing(self):
        session = Session(view(own=[("q", 3)]))
        session.add(PLACE)
        expect(self, [4], [addition.thing for addition in session.added])
        session.undo()
        session.add(("name", "n", "c"))
        expect(self, [4], [addition.thing for addition in session.added])

    def test_add_to_a_caller_that_is_not_right(self):
        session = Session(wrong())
        expect(self, [0], session.add(("name", "l", "z")))
        expect(self, [("found", 3)], session.view.results())
        expect(self, [], session.add(("name", "m", "z")))
        expect(self, [0], Session(View(wrong().caller, Book(given="both"))).add(("name", "l", "z")))

    def test_add_at_noted_names(self):
        session = Session(view())
        session.notes["p"] = PLACE
        session.notes["q"] = ("spread", "l", "k", "x")
        expect(self, [0], session.add("p"))
        expect(self, [], session.add("q"))
        wanted = [Addition(PLACE, 3), Addition(("spread", "l", "k", "x"), 4)]
        later = View(view().caller + wanted[0] + wanted[1], Book())
        notes = [("p", PLACE), ("q", ("spread", "l", "k", "x"))]
        self.check(session, later, wanted, notes)
        expect_error(self, "AlreadyThere", PLACE, session.add, "p")
        session.notes["p"] = ("name", "n", "a")
        expect(self, [], session.add("p"))

    def test_errors_of_add(self):
        session = Session(view())
        session.notes["p"] = PLACE
        session.notes["z"] = ("name", "z", "a")
        session.add(("name", "n", "b"))
        before = state(session)
        cases = [("BadName", value, value) for value in ["q", "", "P", "name l a", "abcdefghi"]]
        cases += [("BadPlace", value, value) for value in NO_PLACES]
        cases += [
            ("UnknownName", "z", "z"),
            ("UnknownName", "z", ("name", "z", "a")),
            ("UnknownName", "l", ("member", "l", "a")),
            ("UnknownName", "z", ("spread", "z", "y", "a")),
            ("UnknownName", "y", ("spread", "l", "y", "a")),
            ("AlreadyThere", ("name", "m", "a"), ("name", "m", "a")),
            ("AlreadyThere", ("name", "n", "b"), ("name", "n", "b")),
            ("AlreadyThere", ("member", "k", "x"), ("member", "k", "x")),
        ]
        for name, value, place in cases:
            expect_error(self, name, value, session.add, place)
            self.assertTrue(state(session) == before)
        self.check_undo(session, [(view(), [])])

    def test_apply(self):
        session = Session(view())
        expect(self, None, session.apply([("whole", 0), ("spell", 0)]))
        later = moved(view(), [("spell", 0), ("whole", 0)])
        self.check(session, later, [])
        expect(self, None, session.apply(chosen=()))
        self.check(session, later, [])
        self.check_undo(session, [(view(), []), (later, [])])

    def test_errors_of_apply(self):
        session = Session(view())
        expect_error(self, "BadMove", ("home", 0), session.apply, [("spell", 0), ("home", 0), None])
        expect_error(self, "BadMove", ("spell", 0), session.apply, [("spell", 0), ("spell", 0)])
        self.check(session, view(), [])
        expect_error(self, "NotRight", [("use", 0)], Session(wrong()).apply, [None])
        self.check_undo(session, [])

    def test_rebook(self):
        session = Session(view())
        late = View(view().caller, Book.late())
        expect(self, None, session.rebook(Book.late()))
        self.check(session, late, [])
        session.rulebook = Book.strict()
        self.check(session, View(view().caller, Book.strict()), [])
        expect(self, None, session.rebook(book=Book.strict()))
        strict = View(view().caller, Book.strict())
        self.check_undo(session, [(view(), []), (late, []), (strict, [])])
        for value in [*ANY, "book", View, view(), 1]:
            for call in [session.rebook, lambda book: setattr(session, "rulebook", book)]:
                expect_error(self, "BadBook", value, call, value)
        self.check(session, view(), [])
        self.check_undo(session, [])

    def test_a_book_under_which_the_caller_is_not_right(self):
        session = Session(view())
        session.rulebook = Book(order="own=named all", given="both", alls="once")
        session.add(PLACE)
        expect_error(self, "NotRight", [("once", "a"), ("use", 0)], session.apply, [])
        session.undo()
        session.apply([("spell", 0)])
        self.assertTrue(session.caller.imports == (("named", "m", "a", "a"),))

    def test_two_sessions_of_one_view(self):
        start = view()
        one, other = Session(start), Session(start)
        one.add(PLACE)
        one.notes["p"] = PLACE
        one.rulebook = Book.late()
        self.check(other, view(), [])
        other.apply([("spell", 0)])
        self.check(one, View(view().caller + Addition(PLACE, 3), Book.late()), [Addition(PLACE, 3)], [("p", PLACE)])
        self.assertTrue(start == view())
        with self.assertRaises(NothingToUndo):
            other.undo()
            other.undo()

    def test_walks_at_random(self):
        draw = random.Random(121)
        for one in right_views(60, 122) + views(40, 123):
            session, states, added, current = Session(one), [], (), one
            for _ in range(12):
                word = draw.choice(("add", "add", "apply", "rebook", "assign", "undo", "wrong"))
                if word == "undo" and states:
                    expect(self, None, session.undo())
                    current, added = states.pop()
                elif word == "wrong":
                    self.check_wrong(draw, session)
                else:
                    row = self.go(draw, session, word, current, added)
                    if row is not None:
                        states.append((current, added))
                        current, added = row
                self.check(session, current, added)
            self.check_undo(session, states)

    def go(self, draw, session, word, current, added):
        """Leads the session one step; the view and the additions behind it, or None if there is no such step."""
        if word == "add":
            places = [addition.place for addition in all_additions(current)]
            if not places:
                return None
            addition = Addition(draw.choice(places), new_thing(current.caller))
            later = View(current.caller + addition, current.book)
            rows = zip(current.results(), later.results())
            expect(self, [at for at, (old, new) in enumerate(rows) if old != new], session.add(addition.place))
            return later, (*added, addition)
        if word == "apply":
            try:
                chosen = [move for move in moves(current) if draw.random() < 0.5]
            except NotRight:
                return None
            session.apply(chosen)
            return moved(current, chosen), added
        book = draw_book(draw)
        if word == "rebook":
            session.rebook(book)
        else:
            session.rulebook = book
        return View(current.caller, book), added

    def check_wrong(self, draw, session):
        call, value = draw.choice(((session.add, None), (session.rebook, None), (session.apply, [None]), (session.add, "a")))
        with self.assertRaises(NamesError):
            call(value)


class TrialTest(Base):
    def begun(self):
        session = Session(view())
        session.add(("name", "n", "b"))
        addition = Addition(("name", "n", "b"), 3)
        return session, View(view().caller + addition, Book()), [addition]

    def test_without_keep(self):
        session, start, added = self.begun()
        for words in [{}, {"keep": False}]:
            with session.trial(**words):
                session.add(PLACE)
                session.rulebook = Book.late()
                session.notes["p"] = PLACE
                self.assertEqual(len(session.added), 2)
            self.check(session, start, added, [("p", PLACE)])
        self.check_undo(session, [(view(), [])])

    def test_with_keep(self):
        session, start, added = self.begun()
        with session.trial(keep=True):
            session.add(PLACE)
            session.apply([])
        later = View(start.caller + Addition(PLACE, 4), Book())
        self.check(session, later, [*added, Addition(PLACE, 4)])
        self.check_undo(session, [(view(), []), (start, added), (later, [*added, Addition(PLACE, 4)])])

    def test_left_by_an_exception(self):
        for keep in (True, False):
            for error in (KeyError("a"), BadCommand("a"), NothingToUndo(), KeyboardInterrupt()):
                session, start, added = self.begun()
                with self.assertRaises(type(error)) as caught:
                    with session.trial(keep=keep):
                        session.add(PLACE)
                        session.notes["p"] = PLACE
                        raise error
                self.assertIs(caught.exception, error)
                self.check(session, start, added, [("p", PLACE)])
                self.check_undo(session, [(view(), [])])

    def changes(self, start):
        """Tuples of a change in a block, the view behind it, and the additions that it makes."""

        def assign(session):
            session.rulebook = Book.strict()

        addition = Addition(PLACE, 4)
        return [
            (lambda session: None, start, []),
            (lambda session: session.add(PLACE), View(start.caller + addition, start.book), [addition]),
            (lambda session: session.apply([("spell", 0)]), moved(start, [("spell", 0)]), []),
            (lambda session: session.rebook(Book.late()), View(start.caller, Book.late()), []),
            (assign, View(start.caller, Book.strict()), []),
            (lambda session: session.attempt([("add", PLACE)]), View(start.caller + addition, start.book), [addition]),
        ]

    def leave(self, session, change, error, **words):
        """Makes a change and a note in the block of a trial, which ends alone or by an error; the error goes on."""
        try:
            with session.trial(**words):
                change(session)
                session.notes["p"] = PLACE
                if error is not None:
                    raise error
        except BaseException as caught:
            self.assertIs(caught, error)
            return
        self.assertIsNone(error)

    def test_each_end_of_a_block_behind_each_change(self):
        errors = (None, KeyError("a"), BadCommand("a"), NothingToUndo(), FailedDeed(0), StopIteration(), GeneratorExit())
        for number in range(6):
            for words in ({}, {"keep": False}, {"keep": True}):
                for error in errors:
                    session, start, added = self.begun()
                    session.notes["o"] = ("name", "n", "b")
                    change, later, more = self.changes(start)[number]
                    self.leave(session, change, error, **words)
                    notes = [("o", ("name", "n", "b")), ("p", PLACE)]
                    kept = words.get("keep", False) and error is None
                    if kept:
                        self.check(session, later, [*added, *more], notes)
                        if number:
                            session.undo()
                    # Behind the undo of what was kept, or at once, the session is as at the block's beginning.
                    self.check(session, start, added, notes)
                    self.check_undo(session, [(view(), [])])

    def test_what_is_taken_back_in_a_block_that_ends_in_each_way(self):
        for keep in (True, False):
            for error in (None, ValueError("a"), KeyboardInterrupt()):
                session, start, added = self.begun()
                self.leave(session, Session.undo, error, keep=keep)
                if keep and error is None:
                    self.check(session, view(), [], [("p", PLACE)])
                    self.check_undo(session, [])
                else:
                    self.check(session, start, added, [("p", PLACE)])
                    self.check_undo(session, [(view(), [])])

    def test_each_end_of_a_block_within_another(self):
        rows = [(keep, error) for keep in (True, False) for error in (None, ValueError("a"))]
        for outer, last in rows:
            for inner, first in rows:
                session, start, added = self.begun()

                def change(session):
                    session.rebook(Book.late())
                    self.leave(session, lambda held: held.add(PLACE), first, keep=inner)
                    # The inner block leaves what the outer one did ahead of it.
                    grown = [Addition(PLACE, 4)] if inner and first is None else []
                    caller = start.caller + grown[0] if grown else start.caller
                    self.check(session, View(caller, Book.late()), [*added, *grown], [("p", PLACE)])

                self.leave(session, change, last, keep=outer)
                if outer and last is None:
                    self.assertTrue(session.rulebook == Book.late())
                    self.assertEqual(len(session.added), 2 if inner and first is None else 1)
                else:
                    self.check(session, start, added, [("p", PLACE)])
                    self.check_undo(session, [(view(), [])])

    def test_an_error_of_a_block_ends_both_blocks(self):
        for outer in (True, False):
            for inner in (True, False):
                session, start, added = self.begun()
                error = ValueError("a")
                with self.assertRaises(ValueError) as caught:
                    with session.trial(keep=outer):
                        session.rebook(Book.late())
                        with session.trial(keep=inner):
                            session.add(PLACE)
                            raise error
                self.assertIs(caught.exception, error)
                self.check(session, start, added)
                self.check_undo(session, [(view(), [])])

    def test_a_second_use_behind_each_end(self):
        for keep in (True, False):
            for error in (None, ValueError("a")):
                session, start, added = self.begun()
                trial = session.trial(keep=keep)
                try:
                    with trial:
                        session.add(PLACE)
                        if error is not None:
                            raise error
                except ValueError:
                    pass
                before, entered = state(session), []
                for _ in range(2):
                    with self.assertRaises(RuntimeError):
                        with trial:
                            entered.append(True)
                    self.assertEqual(entered, [])
                    self.assertTrue(state(session) == before)
                # Another trial of the session serves for a block of its own.
                with session.trial(keep=keep):
                    session.rebook(Book.late())
                self.assertTrue(session.rulebook == (Book.late() if keep else Book()))

    def test_what_was_taken_back_in_the_block(self):
        session, start, added = self.begun()
        with session.trial():
            session.undo()
            self.check(session, view(), [])
            with self.assertRaises(NothingToUndo):
                session.undo()
            session.add(PLACE)
        self.check(session, start, added)
        with session.trial(keep=True):
            session.undo()
        self.check(session, view(), [])
        self.check_undo(session, [])

    def test_one_within_another(self):
        for outer in (True, False):
            for inner in (True, False):
                session, start, added = self.begun()
                with session.trial(keep=outer):
                    session.add(PLACE)
                    with session.trial(keep=inner):
                        session.add(("name", "m", "b"))
                        session.add(("name", "l", "b"))
                    self.assertEqual(len(session.added), 4 if inner else 2)
                self.assertEqual(len(session.added), 1 if not outer else 4 if inner else 2)
                for _ in session.added:
                    session.undo()
                self.check_undo(session, [])

    def test_an_exception_within_another_block(self):
        session, start, added = self.begun()
        with session.trial(keep=True):
            session.add(PLACE)
            with self.assertRaises(ValueError):
                with session.trial(keep=True):
                    session.add(("name", "m", "b"))
                    raise ValueError
            self.assertEqual(len(session.added), 2)
        self.assertEqual(len(session.added), 2)

    def test_the_block_begins_where_it_stands(self):
        session, start, added = self.begun()
        trial = session.trial()
        session.add(PLACE)
        with trial:
            session.add(("name", "m", "b"))
        self.assertEqual(len(session.added), 2)

    def test_a_second_use(self):
        for keep in (True, False):
            session, start, added = self.begun()
            trial = session.trial(keep=keep)
            with trial:
                pass
            entered = []
            with self.assertRaises(RuntimeError):
                with trial:
                    entered.append(True)
            self.assertEqual(entered, [])
            self.check(session, start, added)
            trial = session.trial(keep=keep)
            with self.assertRaises(RuntimeError):
                with trial:
                    session.add(PLACE)
                    with trial:
                        entered.append(True)
            self.assertEqual(entered, [])
            self.check(session, start, added)

    def test_by_name_alone(self):
        with self.assertRaises(TypeError):
            Session(view()).trial(True)
        with self.assertRaises(TypeError):
            Session(view()).attempt([], True)


class AttemptTest(Base):
    def test_each_word(self):
        session = Session(view())
        session.notes["p"] = ("name", "n", "b")
        deeds = [("add", PLACE), ("undo", Touchy()), ("add", "p"), ("apply", [("spell", 0)]), ("rebook", Book.late())]
        expect(self, [[0], None, [], None, None], session.attempt(deeds))
        addition = Addition(("name", "n", "b"), 3)
        first = View(view().caller + addition, Book())
        second = moved(first, [("spell", 0)])
        notes = [("p", ("name", "n", "b"))]
        self.check(session, View(second.caller, Book.late()), [addition], notes)
        self.check_undo(session, [(view(), []), (first, [addition]), (second, [addition])])

    def test_keep(self):
        for words in [{}, {"keep": True}, {"keep": False}]:
            session = Session(view())
            session.add(("name", "n", "b"))
            expect(self, [[0], []], session.attempt(deeds=[("add", PLACE), ("add", ("name", "m", "b"))], **words))
            self.assertEqual(len(session.added), 3 if words.get("keep", True) else 1)
            for _ in session.added:
                session.undo()
            self.check_undo(session, [])

    def test_no_deeds(self):
        for deeds in [[], ()]:
            session = Session(view())
            found = session.attempt(deeds)
            expect(self, [], found)
            self.check_undo(session, [])

    def test_lists_and_tuples(self):
        deeds = [("add", PLACE), ("undo", None)]
        for rows in [deeds, tuple(deeds)]:
            session = Session(view())
            expect(self, [[0], None], session.attempt(rows))
        self.assertEqual(deeds, [("add", PLACE), ("undo", None)])

    def test_bad_commands(self):
        for value in NO_DEEDS:
            for words in [{}, {"keep": False}]:
                session = Session(view())
                expect_error(self, "BadCommand", value, session.attempt, value, **words)
                self.check(session, view(), [])
                self.check_undo(session, [])

    def test_failed_deeds(self):
        cases = [
            (("add", ("name", "z", "a")), "UnknownName", "z"),
            (("add", ("name", "m", "a")), "AlreadyThere", ("name", "m", "a")),
            (("add", "q"), "BadName", "q"),
            (("add", None), "BadPlace", None),
            (("apply", [("spell", 9)]), "BadMove", ("spell", 9)),
            (("rebook", None), "BadBook", None),
        ]
        for deed, name, value in cases:
            for words in [{}, {"keep": True}, {"keep": False}]:
                for before in [[], [("add", ("name", "n", "b"))], [("add", ("name", "n", "b")), ("rebook", Book.late())]]:
                    session = Session(view())
                    session.add(("name", "n", "c"))
                    old = state(session)
                    error = self.failed(session, [*before, deed, ("undo", None), ("undo", None)], **words)
                    self.assertEqual(error.index, len(before))
                    self.check_cause(error, name, value)
                    self.assertTrue(state(session) == old)
                    self.check_undo(session, [(view(), [])])

    def failed(self, session, deeds, **words):
        with self.assertRaises(FailedDeed) as caught:
            session.attempt(deeds, **words)
        self.assertIs(type(caught.exception), FailedDeed)
        return caught.exception

    def check_cause(self, error, name, value):
        cause = error.__cause__
        self.assertIs(type(cause), getattr(errors, name))
        self.assertTrue(same(getattr(cause, ATTRIBUTES[name]), value))

    def test_nothing_to_undo(self):
        session = Session(view())
        error = self.failed(session, [("add", PLACE), ("undo", 1), ("undo", 2)])
        self.assertEqual(error.index, 2)
        self.assertIs(type(error.__cause__), NothingToUndo)
        self.check(session, view(), [])
        session.add(PLACE)
        expect(self, [None], session.attempt([("undo", None)]))
        self.check(session, view(), [])

    def test_not_right(self):
        session = Session(wrong())
        error = self.failed(session, [("apply", [])])
        self.check_cause(error, "NotRight", [("use", 0)])

    def test_other_errors_go_on(self):
        session = Session(view())
        with self.assertRaises(TypeError):
            session.attempt([("add", PLACE), ("apply", 5)])
        self.check(session, view(), [])

    def test_attempts_in_trials(self):
        session = Session(view())
        with session.trial():
            session.attempt([("add", PLACE)])
            self.assertEqual(len(session.added), 1)
            self.failed(session, [("undo", None), ("undo", None)])
            self.assertEqual(len(session.added), 1)
        self.check(session, view(), [])


if __name__ == "__main__":
    unittest.main()
