import random
import re
import unittest

from addednames import errors
from addednames.books import Book, all_books
from addednames.callers import Caller
from addednames.problems import problems
from addednames.texts import read, read_book, read_place, write, write_book, write_place
from addednames.views import View
from addednames.worlds import World
from chance import all_additions, right_views, views
from support import ATTRIBUTES, STRANGE, Greedy, Touchy, expect, expect_error

ANY = (*STRANGE, Greedy(), Touchy(), 1, ["book"], ("name", "l", "a"))
NO_STRINGS = [value for value in ANY if not isinstance(value, str)]

LINES = """book own.named.all own use ahead member near free
class g x=4
class k <g
class j <k y=5 x=1000000000
library l a=1 b=22 >m >n k.s=333 g.s=7
library m
library n >l
library o c=8
library p j.x=9
named l b q
all m
whole o
all m
own z=10
own abcdefgh=11
heir h
heir i <k x=12 !y=13 w=14
heir f <i !w=15
block -
block 0 a=16 b=17
body 1 i
block - c=18
use - q
use 2 w
member j y
of o c
member f w"""


def full_view():
    """The view that is written by these lines."""
    world = World(
        [
            ("l", [("a", 1), ("b", 22)], ["m", "n"], [("k", "s", 333), ("g", "s", 7)]),
            ("m", [], [], []),
            ("n", [], ["l"], []),
            ("o", [("c", 8)], [], []),
            ("p", [], [], [("j", "x", 9)]),
        ],
        [("g", None, [("x", 4)]), ("k", "g", []), ("j", "k", [("y", 5), ("x", 1000000000)])],
    )
    caller = Caller(
        world,
        [("named", "l", "b", "q"), ("all", "m"), ("whole", "o"), ("all", "m")],
        own=[("z", 10), ("abcdefgh", 11)],
        classes=[
            ("h", None, []),
            ("i", "k", [("x", 12, False), ("y", 13, True), ("w", 14, False)]),
            ("f", "i", [("w", 15, True)]),
        ],
        scopes=[("block", None, []), ("block", 0, [("a", 16), ("b", 17)]), ("body", 1, "i"), ("block", None, [("c", 18)])],
        uses=[("name", None, "q"), ("name", 2, "w"), ("member", "j", "y"), ("of", "o", "c"), ("member", "f", "w")],
    )
    return View(caller, Book())


FIRST = "book own.named.all own use ahead member near free"


def text_of(*lines):
    return "\n".join([FIRST, *lines])


# A second reading of the lines, by patterns: the number of the kind and the pattern.
NAME, THING, INDEX = "[a-z]{1,8}", "(?:[1-9][0-9]{0,8}|1000000000)", "(?:0|[1-9][0-9]{0,2})"
NAMED, PARENT = f"{NAME}={THING}", f"(?:-|{INDEX})"
PATTERNS = [
    (0, "book [a-z=.]+ (?:own|both) (?:use|once|first|last) (?:ahead|behind|never) (?:member|spread|tie) (?:near|far) "
        "(?:marked|free)"),
    (1, f"class {NAME}(?: <{NAME})?(?: {NAMED})*"),
    (2, f"library {NAME}(?: {NAMED})*(?: >{NAME})*(?: {NAME}[.]{NAMED})*"),
    (3, f"named {NAME} {NAME} {NAME}"),
    (3, f"(?:all|whole) {NAME}"),
    (4, f"own {NAMED}"),
    (5, f"heir {NAME}(?: <{NAME})?(?: !?{NAMED})*"),
    (6, f"block {PARENT}(?: {NAMED})*"),
    (6, f"body {PARENT} {NAME}"),
    (7, f"use {PARENT} {NAME}"),
    (7, f"(?:member|of) {NAME} {NAME}"),
]
ORDERS = {order.order.replace(" ", ".") for order in all_books()}


def rank_of(line):
    found = [rank for rank, pattern in PATTERNS if re.fullmatch(pattern, line)]
    if not found or (found == [0] and line.split(" ")[1] not in ORDERS):
        return None
    return found[0]


def first_bad_line(text):
    last = 0
    for index, line in enumerate(text.split("\n")):
        rank = rank_of(line)
        if rank is None or rank < last or (rank == 0) != (index == 0):
            return index
        last = rank
    return None


def pairs(words):
    rows = [word.split("=") for word in words if re.fullmatch(NAMED, word)]
    return [(name, int(thing)) for name, thing in rows]


def model_read(text):
    """The view of a text without a bad line."""
    rows = {rank: [line.split(" ") for line in text.split("\n") if rank_of(line) == rank] for rank in range(8)}

    def elder(words):
        return "".join(word[1:] for word in words if word[0] == "<") or None

    def index(word):
        return None if word == "-" else int(word)

    classes = [(words[1], elder(words), pairs(words)) for words in rows[1]]
    libraries = []
    for words in rows[2]:
        gives = [word[1:] for word in words if word[0] == ">"]
        spreads = [(word.split(".")[0], *pairs([word.split(".")[1]])[0]) for word in words if "." in word]
        libraries.append((words[1], pairs(words), gives, spreads))
    heirs = []
    for words in rows[5]:
        members = [(*pairs([word.lstrip("!")])[0], word[0] == "!") for word in words if "=" in word]
        heirs.append((words[1], elder(words), members))
    scopes = [(words[0], index(words[1]), pairs(words[2:]) if words[0] == "block" else words[2]) for words in rows[6]]
    uses = [("name", index(words[1]), words[2]) if words[0] == "use" else tuple(words) for words in rows[7]]
    _, order, given, alls, bodies, spreads, near, marks = rows[0][0]
    book = Book(
        order=order.replace(".", " "), given=given, alls=alls, bodies=bodies, spreads=spreads,
        near=near == "near", marks=marks == "marked",
    )
    imports, own = [tuple(words) for words in rows[3]], [pairs(words)[0] for words in rows[4]]
    return View(Caller(World(libraries, classes), imports, own=own, classes=heirs, scopes=scopes, uses=uses), book)


class WriteTest(unittest.TestCase):
    def test_all_kinds_of_lines(self):
        expect(self, LINES, write(full_view()))
        expect(self, LINES, write(view=full_view()))

    def test_short_texts(self):
        expect(self, FIRST, write(View(Caller(World()), Book())))
        late = "book all.named.own own last behind spread near free\nlibrary l"
        expect(self, late, write(View(Caller(World([("l", [], [], [])])), Book.late())))

    def test_books(self):
        empty = Caller(World())
        for book, words in [
            (Book.plain(), "own.named.all own use ahead member near free"),
            (Book.strict(), "own=named=all both once never tie far marked"),
            (Book.late(), "all.named.own own last behind spread near free"),
            (Book(order="named=all own", alls="first", marks=True), "named=all.own own first ahead member near marked"),
        ]:
            expect(self, words, write_book(book))
            expect(self, words, write_book(book=book))
            expect(self, "book " + words, write(View(empty, book)))


class ReadTest(unittest.TestCase):
    def check(self, one):
        text = write(one)
        for found in [read(text), read(text=text)]:
            self.assertIs(type(found), View)
            self.assertTrue(found == one)
            expect(self, one.results(), found.results())
            expect(self, problems(one), problems(found))
            expect(self, text, write(found))
        self.assertIsNone(first_bad_line(text))

    def test_all_kinds_of_lines(self):
        self.check(full_view())
        self.assertTrue(read(LINES) == full_view())
        self.check(View(Caller(World()), Book()))

    def test_the_order_of_entries(self):
        # Equal worlds may list their things in another order, and are written so.
        one, other = text_of("library l a=1 b=2"), text_of("library l b=2 a=1")
        self.assertTrue(read(one) == read(other))
        expect(self, [one, other], [write(read(one)), write(read(other))])

    def test_views_at_random(self):
        for one in views(250, 111) + right_views(150, 112):
            self.check(one)
            for addition in all_additions(one)[:3]:
                self.check(View(one.caller + addition, one.book))

    def test_all_books(self):
        empty = Caller(World())
        for book in all_books():
            words = write_book(book)
            for found in [read_book(words), read("book " + words).book]:
                self.assertIs(type(found), Book)
                self.assertTrue(found == book)
        self.assertTrue(read_book(text=FIRST[5:]) == Book())
        self.assertTrue(read(FIRST) == View(empty, Book()))


class BadLinesTest(unittest.TestCase):
    def check(self, index, text):
        expect_error(self, "BadText", index, read, text)
        expect_error(self, "BadText", index, read, text=text)
        if isinstance(text, str):
            self.assertEqual(first_bad_line(text), index, text)

    def check_line(self, *lines):
        for line in lines:
            self.check(1, text_of(line))
            self.check(1, text_of(line, "nothing", FIRST))

    def test_values_that_are_no_strings(self):
        for value in NO_STRINGS:
            self.check(None, value)

    def test_the_line_of_the_book(self):
        for text in ["", "\n", "class k", "library l\n" + FIRST, "\n" + FIRST, FIRST + " ", " " + FIRST, "book", "book "]:
            self.check(0, text)
        for word, others in [
            ("own.named.all", ["own named all", "own.named", "all=own", "own.all=named", "named=own.all", "own..named.all", "Own.named.all"]),
            (" own ", [" ", " use ", " both own ", " named ", "  own "]),
            ("use", ["uses", "own", "ahead", ""]),
            ("ahead", ["before", "never ahead"]),
            ("member", ["members", "True"]),
            ("near", ["True", "marked", "nearer", "far near"]),
            ("free", ["False", "far", "", "Free"]),
        ]:
            for other in others:
                self.check(0, FIRST.replace(word, other, 1) if word != "own.named.all" else other + FIRST[18:])
        self.check(1, text_of(FIRST))
        self.check(2, text_of("library l", FIRST))
        self.check(1, text_of("book"))

    def test_spaces_capitals_and_empty_lines(self):
        for at, line in list(enumerate(LINES.split("\n")))[1:]:
            head = LINES.split("\n")[:at]
            for miss in [line + " ", " " + line, line.replace(" ", "  ", 1), line.upper(), line.capitalize(), "", line + "\r"]:
                self.check(at, "\n".join([*head, miss]))
                self.check(at, "\n".join([*head, miss, *LINES.split("\n")[at:]]))
            self.check(at, "\n".join([*head, line.replace(" ", "\t", 1)]))
        self.check(27, LINES + "\n")
        self.check(1, text_of("", "library l"))

    def test_lines_that_are_none(self):
        self.check_line("clas k", "classes k", "import l", "#", "a=1", "-", "uses - a", "name - a", "library", "class", "heir")
        self.check_line("class k <", "class k <g <g", "class k x=1 <g", "class k !x=1", "class k g", "class abcdefghi", "class 1")
        self.check_line("class k x=", "class k =1", "class k x=a", "class k x=1=2", "class k x:1", "class k x=-1", "class k x=+1")
        self.check_line("library l >", "library l >m a=1", "library l k.a=1 >m", "library l k.a=1 a=2", "library l .a=1")
        self.check_line("library l k.=1", "library l k.a", "library l k.b.a=1", "library l <m", "library l m", "library l >m>n")
        self.check_line("named l a", "named l a b c", "named l a=b", "all", "all l m", "whole", "whole l m", "all -")
        self.check_line("own a", "own a=1 b=2", "own", "own - a=1")
        self.check_line("heir h !", "heir h !!x=1", "heir h x=1!", "heir h x=!1", "heir h <k <k", "heir h x=1 <k")
        self.check_line("block", "block a=1", "block -1", "block - a", "block - !a=1", "block 0 1", "block --")
        self.check_line("body", "body -", "body h", "body - h h", "body - h=1", "body h -")
        self.check_line("use", "use -", "use a", "use a -", "use - a b", "use - a=1", "use -1 a", "member", "member k", "member k a b")
        self.check_line("of", "of l", "of l a b", "of - a", "of 0 a", "member 0 a")

    def test_numbers(self):
        for digits in ["0", "01", "00", "1000000001", "9999999999", "10000000000", "1_0", "1.0", "\u0661", "\u00b2", "1e3", "1" * 5000]:
            self.check_line(f"own a={digits}", f"library l a={digits}", f"library l k.a={digits}", f"class k a={digits}")
            self.check_line(f"heir h a={digits}", f"heir h !a={digits}", f"block - a={digits}")
        for digits in ["00", "01", "000", "1000", "0000", "12345", "\u0661", "+1", "1" * 5000]:
            self.check_line(f"use {digits} a", f"block {digits}", f"body {digits} h", f"block {digits} a=1")
        expect_error(self, "BadScope", 0, read, text_of("block 999"))
        expect_error(self, "BadUse", 0, read, text_of("use 999 a"))
        self.assertTrue(read(text_of("own a=1000000000")).caller.own == (("a", 1000000000),))

    def test_lines_of_unlike_kinds_exchanged(self):
        lines = ["class k", "library l", "all l", "own a=1", "heir h", "block -", "use - a"]
        self.assertIsNone(first_bad_line(text_of(*lines)))
        read(text_of(*lines))
        for at in range(len(lines)):
            for back in range(at + 1, len(lines)):
                moved = list(lines)
                moved[at], moved[back] = moved[back], moved[at]
                self.check(at + 2, text_of(*moved))
                self.check(3, text_of(lines[back], lines[back], lines[at]))

    def test_texts_at_random(self):
        draw, told = random.Random(113), {}
        for one in views(250, 114):
            for _ in range(8):
                text = self.changed(draw, write(one))
                at = first_bad_line(text)
                if at is not None:
                    self.check(at, text)
                told["bad" if at is not None else self.check_entries(text)] = True
        self.assertTrue({"bad", "View", "BadClass", "BadLibrary", "BadThing", "BadImport", "BadScope", "BadUse"} <= set(told), told)

    def changed(self, draw, text):
        for _ in range(draw.randint(1, 2)):
            at = draw.randrange(len(text) + 1)
            way = draw.randrange(5)
            if way == 0:
                text = text[:at] + text[at + 1:]
            elif way == 1:
                text = text[:at] + draw.choice("abhklm =<>!.-019\n") + text[at:]
            elif way == 2:
                text = text[:at] + draw.choice("abhklm =<>!.-019\n") + text[at + 1:]
            else:
                lines = text.split("\n")
                one, other = draw.randrange(len(lines)), draw.randrange(len(lines))
                if way == 3:
                    lines[one], lines[other] = lines[other], lines[one]
                else:
                    lines.insert(one, lines[other])
                text = "\n".join(lines)
        return text

    def check_entries(self, text):
        """Without a bad line, the entries make a view, or the errors of World and of Caller are raised."""
        try:
            wanted = model_read(text)
        except errors.NamesError as error:
            name = type(error).__name__
            expect_error(self, name, getattr(error, ATTRIBUTES[name]), read, text)
            return name
        self.assertTrue(read(text) == wanted)
        return "View"


class EntriesTest(unittest.TestCase):
    def check(self, name, value, *lines):
        expect_error(self, name, value, read, text_of(*lines))

    def test_errors_of_the_world(self):
        self.check("BadClass", 1, "class k", "class k", "library l >l")
        self.check("BadClass", 0, "class k <k")
        self.check("BadClass", 1, "class g", "class k a=1 a=2")
        self.check("BadLibrary", 1, "class k", "library l", "library m >m", "library l")
        self.check("BadLibrary", 0, "library l >m >m", "library m")
        self.check("BadLibrary", 0, "library l >z")
        self.check("BadLibrary", 2, "library l", "library m", "library n k.a=1")
        self.check("BadLibrary", 0, "class k", "library l k.a=1 k.a=2")
        self.check("BadLibrary", 0, "library l a=1 a=2")
        self.check("BadThing", 7, "class k a=7", "library l b=7", "all z")

    def test_errors_of_the_caller(self):
        self.check("BadImport", 1, "library l", "all l", "named z a a", "own a=1", "own a=1")
        self.check("BadOwn", 1, "own a=1", "own a=2", "heir h", "heir h")
        self.check("BadClass", 1, "class k", "heir h", "heir k")
        self.check("BadClass", 0, "class k", "heir h <z")
        self.check("BadClass", 2, "heir h", "heir i", "heir j a=1 !a=2", "block 5")
        self.check("BadScope", 0, "block 0", "use - a")
        self.check("BadScope", 2, "heir h", "block -", "body 0 h", "body - z")
        self.check("BadScope", 1, "block -", "block - a=1 a=2")
        self.check("BadScope", 4, "block -", "block 0", "block 1", "block 2", "block 3")
        self.check("BadUse", 1, "block -", "use 0 a", "use 1 a")
        self.check("BadUse", 0, "member k a")
        self.check("BadUse", 0, "library l", "all l", "of l a")
        self.check("BadThing", 7, "class k a=7", "heir h b=7")
        self.check("BadThing", 8, "own a=8", "block - a=8")


class BookTextTest(unittest.TestCase):
    def test_values_that_are_no_books(self):
        words = write_book(Book())
        misses = [*ANY, FIRST, words + " ", " " + words, words.replace(" ", "  ", 1), words.upper(), words + "\n", words[:-1]]
        misses += [words.replace(".", " "), words.rpartition(" ")[0], words + " free", words.replace("near", "True"), "own", "a"]
        for value in misses:
            expect_error(self, "BadText", None, read_book, value)
            expect_error(self, "BadText", None, read_book, text=value)

    def test_each_word_in_each_place(self):
        words = write_book(Book()).split(" ")
        known = {write_book(book) for book in all_books()}
        every = sorted({word for text in known for word in text.split(" ")} | {"True", "False", "", "a"})
        for at in range(7):
            for word in every:
                text = " ".join([*words[:at], word, *words[at + 1:]])
                if text not in known:
                    expect_error(self, "BadText", None, read_book, text)
                else:
                    expect(self, text, write_book(read_book(text)))


class PlaceTextTest(unittest.TestCase):
    def test_places(self):
        for place, text in [
            (("name", "l", "a"), "name l a"),
            (("member", "k", "abcdefgh"), "member k abcdefgh"),
            (("spread", "name", "member", "spread"), "spread name member spread"),
        ]:
            expect(self, text, write_place(place))
            expect(self, text, write_place(place=place))
            expect(self, place, read_place(text))
            expect(self, place, read_place(text=text))

    def test_values_that_are_no_places(self):
        misses = ["name", "name l", "name l a b", "member k", "spread l k", "spread l k a b", "named l a", "Name l a", "name L a"]
        misses += ["name  l a", " name l a", "name l a ", "name l a\n", "name\tl a", "name l 1", "name l abcdefghi", "name l ", "l a", "a"]
        for value in [*ANY, *misses]:
            expect_error(self, "BadText", None, read_place, value)
            expect_error(self, "BadText", None, read_place, text=value)


class NothingChangesTest(unittest.TestCase):
    def test_views(self):
        one = full_view()
        write(one)
        first, second = read(LINES), read(LINES)
        self.assertTrue(first == second == one)
        self.assertIsNot(first, second)


if __name__ == "__main__":
    unittest.main()
