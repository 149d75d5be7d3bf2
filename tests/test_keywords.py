"""Arguments by the names of the interface, in another order, return the same as by position, in all modules."""

import inspect
import unittest

from addednames import books, callers, cases, chains, checker, effects, errors, given, moves, orders, papers, problems
from addednames import reasons, texts, touching, verdicts, views, words
from addednames.additions import Addition
from addednames.books import Book
from addednames.callers import Caller
from addednames.console import Console
from addednames.sessions import Session
from addednames.several import Several
from addednames.verdicts import Verdicts
from addednames.views import View
from addednames.worlds import World
from support import ATTRIBUTES, same

LIBRARIES = [("l", [], ["m", "n"], []), ("m", [("a", 1)], [], [("k", "s", 2)]), ("n", [], [], [])]
CLASSES = [("g", None, [("x", 3)]), ("k", "g", [])]
WORLD = World(LIBRARIES, CLASSES)
PARTS = {
    "own": [("q", 11)],
    "classes": [("h", "k", [("y", 12, False)])],
    "scopes": [("block", None, [("z", 13)]), ("body", 0, "h")],
    "uses": [("name", None, "a"), ("member", "k", "x"), ("name", 1, "z")],
}
CALLER = Caller(WORLD, [("all", "l")], **PARTS)
VIEW = View(CALLER, Book())
ONCE = View(Caller(WORLD, [("all", "l")]), Book(alls="once"))
ADDITION = Addition(("name", "l", "a"), 20)
SEVERAL = Several(ADDITION, Addition(("name", "n", "a"), 21))
GROWN = {"libraries": ["l", "n"], "classes": ["k"]}
DEMAND = ("use", 2, ("all", 0, "l"))

FUNCTIONS = [
    (words.is_name, {"value": "a"}),
    (words.is_thing, {"value": 1}),
    (chains.chain, {"world": WORLD, "name": "k"}),
    (chains.nearest, {"world": WORLD, "name": "k", "member": "x"}),
    (chains.heirs, {"world": WORLD, "name": "g"}),
    (given.reached, {"world": WORLD, "library": "l"}),
    (given.cuts_off, {"world": WORLD, "library": "l", "keeper": "l", "other": "m"}),
    (given.seen, {"world": WORLD, "book": Book(), "library": "l", "name": "a"}),
    (given.gives, {"world": WORLD, "book": Book(), "library": "l", "name": "a"}),
    (given.given_names, {"world": WORLD, "book": Book(), "library": "l"}),
    (problems.problems, {"view": VIEW}),
    (problems.is_right, {"view": VIEW}),
    (problems.at_once, {"world": WORLD, "book": Book(), "libraries": ["l"], "name": "a"}),
    (effects.new_thing, {"caller": CALLER}),
    (cases.case, {"label": ("scope", "elder", "")}),
    (cases.table, {"book": Book()}),
    (cases.can, {"book": Book(), "kind": "name", "word": "breaks"}),
    (reasons.is_part, {"part": Caller(WORLD), "caller": CALLER}),
    (reasons.reason, {"view": VIEW, "addition": ADDITION}),
    (touching.touching, {"view": VIEW, **GROWN}),
    (touching.touching_names, {"view": VIEW, **GROWN}),
    (touching.risks, {"view": ONCE, "libraries": ["n", "m"], "classes": []}),
    (touching.risk_ways, {"view": ONCE, "first": "m", "second": "n"}),
    (touching.fresh_name, {"caller": CALLER}),
    (orders.effect_of, {"view": VIEW, "several": SEVERAL}),
    (orders.showing, {"view": VIEW, "several": SEVERAL}),
    (orders.touchers, {"view": VIEW, "several": SEVERAL}),
    (orders.calm_order, {"view": VIEW, "several": SEVERAL}),
    (papers.is_safe, {"view": VIEW, **GROWN}),
    (papers.demands, {"view": VIEW, **GROWN}),
    (papers.paper, {"view": VIEW, **GROWN}),
    (checker.is_fence, {"world": WORLD, "library": "l", "stop": "m", "other": "m", "value": ("l", "n")}),
    (checker.is_fence, {"world": WORLD, "library": "m", "stop": "n", "other": "l", "value": ("m",)}),
    (checker.meets, {"view": VIEW, "demand": DEMAND, "value": (*DEMAND, ("scope", 1), ())}),
    (checker.accepts, {"view": VIEW, "value": ("touched", "changes", (("name", "l", "a"),)), **GROWN}),
    (verdicts.apart, {"first": Book(marks=True), "second": Book()}),
    (verdicts.least_books, {"books": [Book(marks=True), Book()]}),
    (moves.moves, {"view": VIEW}),
    (moves.moved, {"view": VIEW, "chosen": [("spell", 0)]}),
    (moves.flaw, {"view": VIEW, "chosen": [("spell", 0)], **GROWN}),
    (moves.least_moves, {"view": VIEW, **GROWN}),
    (texts.write, {"view": VIEW}),
    (texts.read, {"text": texts.write(VIEW)}),
    (texts.write_book, {"book": Book.late()}),
    (texts.read_book, {"text": texts.write_book(Book.late())}),
    (texts.write_place, {"place": ("name", "l", "a")}),
    (texts.read_place, {"text": "name l a"}),
]
METHODS = [
    (Addition, {"place": ("name", "l", "a"), "thing": 20}),
    (World, {"libraries": LIBRARIES, "classes": CLASSES}),
    (WORLD.names_of, {"library": "m"}),
    (WORLD.gives_of, {"library": "l"}),
    (WORLD.spreads_of, {"library": "m"}),
    (WORLD.elder_of, {"name": "k"}),
    (WORLD.members_of, {"name": "g"}),
    (books.Book, {"order": "own=named all", "alls": "last", "marks": True}),
    (Book().rank, {"group": "named"}),
    (Book().changed, {"part": "marks", "value": True}),
    (callers.Caller, {"world": WORLD, "imports": [("all", "l")], **PARTS}),
    (CALLER.chain, {"name": "h"}),
    (CALLER.members_of, {"name": "h"}),
    (CALLER.around, {"scope": 1}),
    (CALLER.with_uses, {"uses": [("name", None, "q")]}),
    (views.View, {"caller": CALLER, "book": Book()}),
    (VIEW, {"index": 0}),
    (VIEW.spots, {"index": 0}),
    (VIEW.place_of, {"index": 0, "spot": ("all", 0, "m")}),
    (VIEW.told, {"index": 0, "spot": ("all", 0, "m")}),
    (VIEW.tellers, {"index": 0}),
    (VIEW.silences, {"index": 2, "one": ("scope", 1), "other": ("own",)}),
    (VIEW.foremost, {"index": 0}),
    (Verdicts, {"book": Book.late()}),
]


def plain(value):
    """The value with the parts of objects that can be compared in their place."""
    if isinstance(value, (list, tuple)):
        return [type(value).__name__, [plain(item) for item in value]]
    if isinstance(value, dict):
        return [(key, plain(item)) for key, item in value.items()]
    return value


class KeywordsTest(unittest.TestCase):
    def check(self, call, named):
        kinds = {word: part.kind for word, part in inspect.signature(call).parameters.items()}
        alone = {word: value for word, value in named.items() if kinds[word] is inspect.Parameter.KEYWORD_ONLY}
        first = [value for word, value in named.items() if word not in alone]
        wanted = call(*first, **alone)
        back = dict(list(named.items())[::-1])
        self.assertEqual(list(named)[: len(first)], [word for word in kinds if word in named][: len(first)])
        self.assertTrue(same(plain(wanted), plain(call(**back))), call)

    def test_functions(self):
        for call, named in FUNCTIONS:
            self.check(call, named)

    def test_methods_and_classes(self):
        for call, named in METHODS:
            self.check(call, named)

    def test_generators(self):
        self.assertEqual(list(effects.places_for(names=["a"], world=WORLD)), list(effects.places_for(WORLD, ["a"])))
        rows = list(SEVERAL.additions)
        self.assertEqual(list(orders.steps(additions=rows, view=VIEW)), list(orders.steps(VIEW, rows)))

    def test_errors(self):
        for name, word in ATTRIBUTES.items():
            error = getattr(errors, name)
            self.assertEqual([vars(error("a"))[word], vars(error(**{word: "a"}))[word]], ["a", "a"])

    def test_sessions_and_consoles(self):
        one, other = Session(VIEW), Session(view=VIEW)
        self.assertEqual(one.add(("name", "l", "a")), other.add(place=("name", "l", "a")))
        self.assertEqual(one.rebook(Book.late()), other.rebook(book=Book.late()))
        self.assertEqual(one.rebook(Book()), other.rebook(book=Book()))
        self.assertEqual(one.apply([("spell", 0)]), other.apply(chosen=[("spell", 0)]))
        self.assertTrue(one.view == other.view)
        deeds = [("undo", None), ("add", ("name", "n", "c"))]
        self.assertEqual(one.attempt(deeds, keep=False), other.attempt(keep=False, deeds=deeds))
        self.assertTrue(one.view == other.view)
        line = "load " + texts.write(VIEW).replace("\n", "; ")
        self.assertEqual(Console().run(line), Console().run(line=line))


if __name__ == "__main__":
    unittest.main()
