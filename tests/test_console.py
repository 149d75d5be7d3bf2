import random
import unittest

from addednames import errors
from addednames.books import Book
from addednames.callers import Caller
from addednames.console import Console
from addednames.effects import places_for
from addednames.errors import NamesError, NotRight, TooMany
from addednames.moves import least_moves, moves
from addednames.papers import is_safe
from addednames.problems import is_right
from addednames.sessions import Session
from addednames.texts import write, write_book, write_place
from addednames.touching import risks, touching
from addednames.views import View
from addednames.worlds import World
from chance import draw_book, right_views, views
from support import STRANGE, Greedy, Touchy, expect, expect_error

FIRST = "book own.named.all own use ahead member near free"
SMALL = f"{FIRST}; library l >m; library m a=1; all l; use - a; use - a"
ONCE = "book own.named.all own once ahead member near free; library l >m >n; library m; library n; library o; all l; all n"
NO_STRINGS = [value for value in (*STRANGE, Greedy(), Touchy(), 1, ["show"], b"show") if not isinstance(value, str)]
# Commands that are right behind a `load` of SMALL.
COMMANDS = (
    "show",
    "note p name l a",
    "add name l a",
    "undo",
    "find 0",
    "right",
    "safe",
    "touch",
    "risks",
    "moves",
    "least",
    "apply spell 0",
    "book " + FIRST[5:],
)


def begun(text=SMALL):
    console = Console()
    console.run("load " + text)
    return console


def written(view):
    return write(view).replace("\n", "; ")


class Base(unittest.TestCase):
    def check(self, console, *rows):
        """Lines and what they tell."""
        for line, wanted in rows:
            expect(self, wanted, console.run(line))

    def check_error(self, console, name, value, line):
        """The line raises the error, and nothing changes."""
        before = console.run("show")
        expect_error(self, name, value, console.run, line)
        expect(self, before, console.run("show"))


class LoadTest(Base):
    def test_load_and_show(self):
        console = Console()
        self.check(console, ("load " + SMALL, "ok"), ("show", SMALL))
        expect(self, "ok", console.run(line="load " + FIRST))
        self.check(console, ("show", FIRST))

    def test_a_second_load_begins_anew(self):
        console = begun()
        self.check(console, ("note p name l a", "ok"), ("add p", "0 1"), ("load " + ONCE, "ok"), ("show", ONCE))
        with self.assertRaises(errors.NothingToUndo):
            console.run("undo")
        self.check_error(console, "BadName", "p", "add p")

    def test_bad_texts(self):
        rows = [
            ("", 0),
            ("a", 0),
            (" " + FIRST, 0),
            (FIRST + ";", 0),
            (FIRST + "; ", 1),
            (FIRST + "; library l ; all l", 1),
            (FIRST + "; library l;  all l", 2),
            (FIRST + ";library l", 0),
            (FIRST + "; library l; ; all l", 2),
            (FIRST + "; " + FIRST, 1),
        ]
        for text, index in rows:
            expect_error(self, "BadText", index, Console().run, "load " + text)
            self.check_error(begun(), "BadText", index, "load " + text)
        for name, value, line in [
            ("BadImport", 0, "all z"),
            ("BadLibrary", 0, "library l >l"),
            ("BadUse", 0, "use 0 a"),
            ("BadThing", 1, "own a=1; own b=1"),
        ]:
            self.check_error(begun(), name, value, f"load {FIRST}; {line}")

    def test_a_failed_load_keeps_the_session(self):
        console = begun()
        self.check(console, ("note p name l a", "ok"), ("add p", "0 1"))
        self.check_error(console, "BadText", 0, "load a")
        self.check_error(console, "BadCommand", "load", "load")
        self.check(console, ("undo", "ok"), ("show", SMALL), ("add p", "0 1"))

    def test_ahead_of_the_first_load(self):
        console = Console()
        for _ in range(2):
            for line in [*COMMANDS, "", " ", "load", "Load " + SMALL, " load " + SMALL, "loads " + SMALL, "note", "add "]:
                expect_error(self, "BadCommand", line, console.run, line)
            expect_error(self, "BadText", 0, console.run, "load a")
        self.check(console, ("load " + SMALL, "ok"), ("show", SMALL))

    def test_views_at_random(self):
        for one in views(120, 131):
            console = begun(written(one))
            self.check(console, ("show", written(one)), ("right", "yes" if is_right(one) else "no"))


class AddTest(Base):
    def test_add_and_undo(self):
        later = SMALL.replace("library l", "library l a=2")
        rows = [("add name l a", "0 1"), ("show", later), ("add name m b", "-"), ("undo", "ok"), ("show", later)]
        self.check(begun(), *rows, ("undo", "ok"), ("show", SMALL))
        text = SMALL.replace("library l", "class k x=3; library l")
        rows = [("add spread l k a", "-"), ("add member k b", "-")]
        self.check(begun(text), *rows, ("show", text.replace("x=3", "x=3 b=4").replace(">m", ">m k.a=2")))

    def test_nothing_to_undo(self):
        console = begun()
        for rows in [[], ["add name l a", "undo"], ["note p name l a"], ["right", "least"]]:
            for line in rows:
                console.run(line)
            with self.assertRaises(errors.NothingToUndo):
                console.run("undo")
            expect(self, SMALL, console.run("show"))

    def test_notes(self):
        console = begun()
        rows = [("note p name l a", "ok"), ("note add spread l k a", "ok"), ("note p name l b", "ok"), ("add p", "-")]
        self.check(console, *rows, ("show", SMALL.replace("library l", "library l b=2")))
        self.check(console, ("undo", "ok"), ("note p name l a", "ok"), ("add p", "0 1"), ("undo", "ok"))
        self.check_error(console, "UnknownName", "k", "add add")

    def test_errors_of_texts(self):
        for text in ["", " ", "p q", "name l", "name l a ", " name l a", "name  l a", "Name l a", "P", "abcdefghi", "name l A"]:
            self.check_error(begun(), "BadText", None, "add " + text)
            self.check_error(begun(), "BadText", None, "note p " + text)
        self.check_error(begun(), "BadText", None, "note p q")

    def test_errors_of_places(self):
        console = begun()
        self.check(console, ("note z name z a", "ok"), ("note m name m a", "ok"))
        for name, value, text in [
            ("BadName", "q", "q"),
            ("UnknownName", "z", "z"),
            ("UnknownName", "z", "name z a"),
            ("UnknownName", "l", "member l a"),
            ("AlreadyThere", ("name", "m", "a"), "name m a"),
            ("AlreadyThere", ("name", "m", "a"), "m"),
        ]:
            self.check_error(console, name, value, "add " + text)
        with self.assertRaises(errors.NothingToUndo):
            console.run("undo")

    def test_names_of_notes(self):
        for text in ["", " name l a", "P name l a", "p1 name l a", "abcdefghi name l a", "p", "- name l a", "p\tname l a"]:
            self.check_error(begun(), "BadCommand", "note " + text, "note " + text)
        self.check_error(begun(), "BadCommand", "note P ", "note P ")
        self.check_error(begun(), "BadCommand", "note p.q x", "note p.q x")


class TellTest(Base):
    def test_find(self):
        text = f"{FIRST}; library l a=1; library m a=2; all l; all m; own b=7; use - a; use - b; use - c"
        self.check(begun(text), ("find 0", "clash"), ("find 1", "7"), ("find 2", "nothing"))
        for value in [3, 10, 999]:
            self.check_error(begun(text), "NoUse", value, f"find {value}")
        for words in ["", "00", "01", "1000", "-1", "+1", "a", "0 ", " 0", "0 1", "1.", "\u0661", "0001", "None"]:
            self.check_error(begun(text), "BadCommand", "find " + words, "find " + words)

    def test_right_and_safe(self):
        self.check(begun(), ("right", "yes"), ("safe", "no"))
        self.check(begun(f"{FIRST}; use - a"), ("right", "no"), ("safe", "no"))
        self.check(begun(f"{FIRST}; own a=1; use - a"), ("right", "yes"), ("safe", "yes"))

    def test_touch(self):
        self.check(begun(), ("touch", "name l a changes"))
        self.check(begun(f"{FIRST}; own a=1; use - a"), ("touch", "-"))
        text = f"{FIRST}; class g x=1; class k <g; library l b=2 >m >n; library m; library n k.y=3; all l; use - b; member k x; member k y"
        wanted = "member k x changes; member g y changes; member k y changes; spread l k y breaks; spread m k y breaks"
        self.check(begun(text), ("touch", wanted))
        wanted = "name m b breaks; name n b breaks; " + wanted
        self.check(begun(text.replace("all own use", "all both use")), ("touch", wanted))

    def test_risks(self):
        self.check(begun(ONCE), ("risks", "l n; m n"))
        self.check(begun(ONCE.replace("; all l", "")), ("risks", "-"))
        self.check(begun(), ("risks", "-"))

    def test_moves_and_least(self):
        text = f"{FIRST}; library l >m; library m a=1; named l a p; all l; use - a"
        self.check(begun(text), ("moves", "home 0; spell 1; whole 0"), ("least", "spell 1 | whole 0"))
        self.check(begun(FIRST), ("moves", "-"), ("least", "none"))
        text = f"{FIRST}; library l >m; library m a=1; named l a p; all l; use - a; use - p"
        rows = [("moves", "home 0; spell 1; whole 0; whole 1")]
        wanted = "home 0; spell 1 | home 0; whole 0 | spell 1; whole 1 | whole 0; whole 1"
        self.check(begun(text), *rows, ("least", wanted))
        text = f"{FIRST}; class g x=1; class k <g; member k x"
        self.check(begun(text), ("moves", "-"), ("least", "-"))
        many = "; all l" * 9
        self.check_error(begun(f"{FIRST}; library l{many}"), "TooMany", 8, "least")

    def test_a_caller_that_is_not_right(self):
        console = begun(f"{FIRST}; library l; all l; own a=1; use - a; use - b")
        for line in ["touch", "risks", "moves", "least", "apply spell 0", "apply home 7; home 7"]:
            self.check_error(console, "NotRight", [("use", 1)], line)


class ApplyTest(Base):
    def test_moves(self):
        text = f"{FIRST}; library l >m; library m a=1; named l a p; all l; use - a; use - p"
        later = f"{FIRST}; library l >m; library m a=1; named m a p; named m a a; whole m; use - a; of m a"
        for words in ["home 0; spell 1; whole 1", "whole 1; home 0; spell 1"]:
            console = begun(text)
            self.check(console, ("apply " + words, "ok"), ("show", later), ("safe", "yes"), ("undo", "ok"), ("show", text))

    def test_moves_that_there_are_not(self):
        for words, move in [("home 0", ("home", 0)), ("spell 0; spell 0", ("spell", 0)), ("whole 0; whole 999", ("whole", 999))]:
            self.check_error(begun(), "BadMove", move, "apply " + words)

    def test_moves_that_are_not_written_as_described(self):
        for words in [
            "",
            " ",
            "spell",
            "spell ",
            "spell  0",
            "spell 0 ",
            " spell 0",
            "spell 00",
            "spell 01",
            "spell 1000",
            "spell -1",
            "spell a",
            "Spell 0",
            "spells 0",
            "spell 0;",
            "spell 0; ",
            "; spell 0",
            "spell 0;whole 0",
            "spell 0;  whole 0",
            "spell 0 ; whole 0",
            "spell 0, whole 0",
            "spell 0 | whole 0",
            "spell 0; ; whole 0",
            "none",
            "-",
            "spell 0 0",
            "spell \u0661",
        ]:
            self.check_error(begun(), "BadCommand", "apply " + words, "apply " + words)


class BookTest(Base):
    def test_books(self):
        for book in [Book(), Book.late(), Book.strict()]:
            later = SMALL.replace(FIRST, "book " + write_book(book))
            self.check(begun(), ("book " + write_book(book), "ok"), ("show", later), ("undo", "ok"), ("show", SMALL))

    def test_bad_texts(self):
        for text in ["", " ", "a", FIRST, FIRST[5:] + " ", " " + FIRST[5:], FIRST[5:].replace(".", " "), FIRST[5:].upper(), FIRST[5:-1]]:
            self.check_error(begun(), "BadText", None, "book " + text)


class BadCommandTest(Base):
    def test_values_that_are_no_strings(self):
        for console in [Console(), begun()]:
            for value in NO_STRINGS:
                expect_error(self, "BadCommand", value, console.run, value)
                expect_error(self, "BadCommand", value, console.run, line=value)
        expect(self, SMALL, console.run("show"))

    def test_lines_with_a_line_feed(self):
        for line in [*COMMANDS, "load " + SMALL]:
            for miss in [line + "\n", "\n" + line, line.replace(" ", "\n", 1) + "\n", line + " \n"]:
                self.check_error(begun(), "BadCommand", miss, miss)
                expect_error(self, "BadCommand", miss, Console().run, miss)
        self.check_error(begun(), "BadCommand", "load " + SMALL.replace("; ", "\n"), "load " + SMALL.replace("; ", "\n"))

    def test_lines_that_are_no_commands(self):
        for line in COMMANDS:
            word = line.split(" ")[0]
            misses = [" " + line, line.capitalize(), line.upper(), word + "s" + line[len(word):], word[:-1] + line[len(word):]]
            if " " in line:
                misses += [word]
            else:
                misses += [line + " ", line + " 0", line + " a"]
            for miss in misses:
                if miss != "add":
                    self.check_error(begun(), "BadCommand", miss, miss)
        for line in ["", " ", "help", "quit", "show;", "show; show", "add", "rebook a", "name l a", "p", "\t", "show\r", "write"]:
            self.check_error(begun(), "BadCommand", line, line)

    def test_two_spaces(self):
        for line, name in [("add  name l a", "BadText"), ("note p  name l a", "BadText"), ("book  " + FIRST[5:], "BadText")]:
            self.check_error(begun(), name, None, line)
        for line in ["note  p name l a", "find  0", "apply  spell 0"]:
            self.check_error(begun(), "BadCommand", line, line)
        self.check_error(begun(), "BadText", 0, "load  " + SMALL)


class AlikeTest(Base):
    """A session and a console that are led in the same way tell the same."""

    def test_walks_at_random(self):
        draw, told = random.Random(132), {}
        for one in right_views(80, 133) + views(30, 134):
            session, console = Session(one), begun(written(one))
            for _ in range(10):
                kind = draw.choice(("add", "add", "note", "apply", "book", "undo"))
                self.check_step(draw, session, console, kind)
                told[kind] = told.get(kind, 0) + 1
                self.check_told(session.view, console)
        self.assertEqual(len(told), 5)

    def check_step(self, draw, session, console, kind):
        line, call, wanted = self.step(draw, session, kind)
        try:
            found = call()
        except (NamesError, errors.UnknownName, errors.NothingToUndo) as error:
            with self.assertRaises(type(error)) as caught:
                console.run(line)
            self.assertEqual(vars(caught.exception), vars(error))
            return
        if kind == "add":
            wanted = " ".join(str(index) for index in found) or "-"
        expect(self, wanted, console.run(line))

    def step(self, draw, session, kind):
        """A line, a call of the session that does the same, and what the line tells."""
        view = session.view
        places = list(places_for(view.caller.world, ["a", "b", "c"]))
        place = draw.choice([*places, ("name", "l", "a"), ("member", "g", "a"), ("name", "z", "a")])
        if kind == "add":
            noted = draw.choice(("p", "q", None, None))
            return (f"add {noted}" if noted else f"add {write_place(place)}"), lambda: session.add(noted or place), None
        if kind == "note":
            word = draw.choice("pq")
            return f"note {word} {write_place(place)}", lambda: self.put(session, word, place), "ok"
        if kind == "apply":
            rows = [(word, index) for word in ("home", "spell", "whole") for index in range(3)]
            if is_right(view):
                rows += moves(view) * 3
            chosen = draw.sample(rows, draw.randint(1, 2))
            return "apply " + "; ".join(f"{word} {index}" for word, index in chosen), lambda: session.apply(chosen), "ok"
        if kind == "book":
            book = draw_book(draw)
            return f"book {write_book(book)}", lambda: session.rebook(book), "ok"
        return "undo", session.undo, "ok"

    def put(self, session, word, place):
        session.notes[word] = place

    def check_told(self, view, console):
        self.check(console, ("show", written(view)), ("safe", "yes" if is_safe(view) else "no"))
        for index, result in enumerate(view.results()):
            self.check(console, (f"find {index}", str(result[1]) if result[0] == "found" else result[0]))
        self.check(console, ("right", "yes" if is_right(view) else "no"))
        try:
            rows = {
                "touch": "; ".join([" ".join([*place, word]) for place, word in touching(view)]) or "-",
                "risks": "; ".join([" ".join(pair) for pair in risks(view)]) or "-",
                "moves": "; ".join([f"{word} {index}" for word, index in moves(view)]) or "-",
            }
        except NotRight as error:
            for line in ("touch", "risks", "moves", "least"):
                expect_error(self, "NotRight", error.problems, console.run, line)
            return
        self.check(console, *rows.items())
        try:
            sets = [" ".join(f"{word} {index};" for word, index in chosen)[:-1] or "none" for chosen in least_moves(view)]
        except TooMany:
            expect_error(self, "TooMany", 8, console.run, "least")
            return
        self.check(console, ("least", " | ".join(sets) or "-"))


class TwoConsolesTest(Base):
    def test_they_do_not_touch_one_another(self):
        one, other = begun(), begun()
        self.check(one, ("note p name l a", "ok"), ("add p", "0 1"))
        self.check(other, ("show", SMALL))
        expect_error(self, "BadName", "p", other.run, "add p")

    def test_the_texts_are_those_of_a_view(self):
        world = World([("l", [], ["m"], []), ("m", [("a", 1)], [], [])])
        caller = Caller(world, [("all", "l")], uses=[("name", None, "a"), ("name", None, "a")])
        expect(self, SMALL, written(View(caller, Book())))


if __name__ == "__main__":
    unittest.main()
