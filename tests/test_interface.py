"""Checks that all that the interface lists stands in its module, with its arguments."""

import importlib
import inspect
import unittest

FUNCTIONS = {
    "words": ["is_name(value)", "is_thing(value)"],
    "chains": ["chain(world, name)", "nearest(world, name, member)", "heirs(world, name)"],
    "books": ["all_books()"],
    "given": [
        "reached(world, library)",
        "cuts_off(world, library, keeper, other)",
        "seen(world, book, library, name)",
        "gives(world, book, library, name)",
        "given_names(world, book, library)",
    ],
    "problems": ["problems(view)", "is_right(view)", "at_once(world, book, libraries, name)"],
    "effects": [
        "behind(view, *additions)",
        "effect(view, *additions)",
        "touched_uses(view, *additions)",
        "places_for(world, names)",
        "new_thing(caller)",
    ],
    "cases": ["labels()", "case(label)", "table(book)", "can(book, kind, word)"],
    "reasons": ["is_part(part, caller)", "reason(view, addition)"],
    "touching": [
        "touching(view, *, libraries=None, classes=None)",
        "touching_names(view, *, libraries=None, classes=None)",
        "risks(view, *, libraries=None, classes=None)",
        "risk_ways(view, first, second)",
        "fresh_name(caller)",
    ],
    "orders": [
        "effect_of(view, several)",
        "showing(view, several)",
        "touchers(view, several)",
        "steps(view, additions)",
        "calm_order(view, several)",
    ],
    "papers": [
        "is_safe(view, *, libraries=None, classes=None)",
        "demands(view, *, libraries=None, classes=None)",
        "paper(view, *, libraries=None, classes=None)",
    ],
    "checker": [
        "is_fence(world, library, stop, other, value)",
        "meets(view, demand, value)",
        "accepts(view, value, *, libraries=None, classes=None)",
    ],
    "verdicts": ["apart(first, second)", "least_books(books)"],
    "moves": [
        "moves(view)",
        "moved(view, chosen)",
        "flaw(view, chosen, *, libraries=None, classes=None)",
        "least_moves(view, *, libraries=None, classes=None)",
    ],
    "texts": [
        "write(view)",
        "read(text)",
        "write_book(book)",
        "read_book(text)",
        "write_place(place)",
        "read_place(text)",
    ],
}
GENERATORS = {"all_books", "places_for", "steps"}
CLASSES = {
    "additions": {"Addition": ["__init__(self, place, thing)", "__eq__(self, other)"]},
    "worlds": {
        "World": [
            "__init__(self, libraries=(), classes=())",
            "library_names(self)",
            "class_names(self)",
            "names_of(self, library)",
            "gives_of(self, library)",
            "spreads_of(self, library)",
            "elder_of(self, name)",
            "members_of(self, name)",
        ],
    },
    "books": {"Book": ["rank(self, group)", "changed(self, part, value)"]},
    "callers": {
        "Caller": [
            "__init__(self, world, imports=(), *, own=(), classes=(), scopes=(), uses=())",
            "chain(self, name)",
            "members_of(self, name)",
            "around(self, scope)",
            "with_uses(self, uses)",
        ],
    },
    "views": {
        "View": [
            "__init__(self, caller, book)",
            "spots(self, index)",
            "place_of(self, index, spot)",
            "told(self, index, spot)",
            "tellers(self, index)",
            "silences(self, index, one, other)",
            "foremost(self, index)",
            "__call__(self, index)",
            "results(self)",
        ],
    },
    "several": {"Several": ["__init__(self, *additions)"]},
    "verdicts": {"Verdicts": ["__init__(self, book)"]},
    "notes": {"Notes": ["__init__(self)", "listed(self)"]},
    "sessions": {
        "Session": [
            "__init__(self, view)",
            "add(self, place)",
            "apply(self, chosen)",
            "rebook(self, book)",
            "undo(self)",
            "trial(self, *, keep=False)",
            "attempt(self, deeds, *, keep=True)",
        ],
    },
    "console": {"Console": ["__init__(self)", "run(self, line)"]},
}
# The signs that the interface uses of each class: all are defined in the class itself.
SIGNS = {
    ("additions", "Addition"): "eq",
    ("worlds", "World"): "len contains getitem add radd eq",
    ("books", "Book"): "getitem eq",
    ("callers", "Caller"): "len contains add radd eq",
    ("views", "View"): "call eq",
    ("several", "Several"): "len contains getitem or ror and rand sub rsub le lt ge gt eq",
    ("verdicts", "Verdicts"): "len contains getitem le lt ge gt eq",
    ("notes", "Notes"): "len contains getitem setitem",
}
PROPERTIES = {
    ("books", "Book"): ["order", "given", "alls", "bodies", "spreads", "near", "marks"],
    ("callers", "Caller"): ["world", "imports", "own", "classes", "scopes", "uses"],
    ("views", "View"): ["caller", "book"],
    ("several", "Several"): ["additions"],
    ("verdicts", "Verdicts"): ["book"],
    ("sessions", "Session"): ["view", "caller", "rulebook", "notes", "added"],
}


def module(name):
    return importlib.import_module(f"addednames.{name}")


class InterfaceTest(unittest.TestCase):
    def check(self, owner, row):
        name = row.partition("(")[0]
        found = vars(owner)[name]
        self.assertTrue(inspect.isfunction(found), row)
        self.assertEqual(name + str(inspect.signature(found)), row)
        return found

    def test_functions(self):
        for file, rows in FUNCTIONS.items():
            for row in rows:
                found = self.check(module(file), row)
                self.assertEqual(found.__module__, f"addednames.{file}")
                self.assertEqual(inspect.isgeneratorfunction(found), found.__name__ in GENERATORS, row)

    def test_classes(self):
        for file, classes in CLASSES.items():
            for name, rows in classes.items():
                found = vars(module(file))[name]
                self.assertEqual(found.__module__, f"addednames.{file}")
                for row in rows:
                    self.check(found, row)

    def test_signs(self):
        for (file, name), words in SIGNS.items():
            for word in words.split():
                self.assertTrue(inspect.isfunction(vars(vars(module(file))[name]).get(f"__{word}__")), f"{name}, {word}")

    def test_properties(self):
        for (file, name), rows in PROPERTIES.items():
            found = vars(module(file))[name]
            for row in rows:
                self.assertIsInstance(vars(found)[row], property)


if __name__ == "__main__":
    unittest.main()
