import unittest

from addednames.additions import Addition
from addednames.books import ORDERS, Book, all_books
from addednames.callers import Caller
from addednames.cases import can, case, labels, table
from addednames.effects import effect
from addednames.errors import NotRight
from addednames.problems import is_right
from addednames.views import View
from addednames.worlds import World
from support import STRANGE, Greedy, Touchy, expect, expect_error

ANY = (*STRANGE, Greedy(), Touchy(), "own", 1, ("all", "all"), ["all", "all", "other"])
LABELS = [
    ("scope", "elder", ""),
    ("elder", "elder", "nearer"),
    ("own", "elder", ""),
    ("named", "elder", ""),
    ("all", "elder", ""),
    ("elder", "all", ""),
    ("own", "all", ""),
    ("named", "all", ""),
    ("all", "all", "earlier"),
    ("all", "all", "later"),
    ("all", "all", "ahead"),
    ("all", "all", "beside"),
    ("all", "all", "behind"),
    ("named", "named", "ahead"),
    ("named", "named", "beside"),
    ("named", "named", "behind"),
    ("of", "of", "ahead"),
    ("of", "of", "beside"),
    ("of", "of", "behind"),
    ("all", "named", ""),
    ("named", "named", "other"),
    ("member", "member", "nearer"),
    ("spread", "member", ""),
    ("member", "spread", ""),
    ("spread", "spread", "nearer"),
    ("spread", "spread", "farther"),
    ("spread", "spread", "level"),
    ("mark", "member", ""),
    ("once", "all", "other"),
    ("once", "all", "ahead"),
    ("once", "all", "beside"),
    ("once", "all", "behind"),
    ("import", "named", "ahead"),
    ("import", "named", "beside"),
    ("import", "named", "behind"),
]
# The words of three books, one letter for each label: stays, changes, breaks, none.
PLAIN = "ccccc sss bb cbs cbs cbs cb c cs csb s ssss sbs"
STRICT = "snsss nbb bb bbb bbb bbb bb c bb bbb b bbbb bbb"
LATE = "scsss ccc sc cbs cbs cbs sb c sc csb s ssss sbs"
WORDS = {"s": "stays", "c": "changes", "b": "breaks", "n": None}


def words(book):
    return dict(table(book))


def kind(label):
    if label[1] in ("elder", "member"):
        return "member"
    return "spread" if label[1] == "spread" else "name"


class LabelsTest(unittest.TestCase):
    def test_in_order(self):
        expect(self, LABELS, labels())
        labels().clear()
        expect(self, LABELS, labels())
        expect(self, 35, len(labels()))


class CaseTest(unittest.TestCase):
    def test_callers_and_additions(self):
        for label in LABELS:
            found = case(label)
            self.assertIsInstance(found, tuple)
            caller, addition = found
            self.assertIsInstance(caller, Caller)
            self.assertIsInstance(addition, Addition)
            expect(self, 0 if label[0] in ("mark", "once", "import") else 1, len(caller))
            self.assertLessEqual(len(caller.imports), 2)
            expect(self, kind(label), addition.kind)

    def test_the_same_in_each_call(self):
        for label in LABELS:
            one, other = case(label), case(label=label)
            self.assertTrue(one[0] == other[0])
            self.assertTrue(one[1] == other[1])

    def test_the_effect_is_in_the_table_of_each_book(self):
        cases = {label: case(label) for label in LABELS}
        for book in all_books():
            for label, word in table(book):
                caller, addition = cases[label]
                try:
                    found = effect(View(caller, book), addition)
                except NotRight:
                    found = None
                if found != word:
                    self.fail(f"{label} {found} {word} {[book[part] for part in ('order', 'given', 'alls')]}")

    def test_the_found_and_the_added_kinds(self):
        # Under some book that lets the addition touch, the case is touched by spots of the label's kinds.
        for label in LABELS:
            caller, addition = case(label)
            if len(caller) == 0:
                continue
            found = set()
            for order in ORDERS:
                for parts in [{}, {"bodies": "behind", "spreads": "spread"}, {"spreads": "tie", "near": False}]:
                    for alls in ("use", "first", "last"):
                        for given in ("own", "both"):
                            book = Book(order=order, alls=alls, given=given, **parts)
                            before, later = View(caller, book), View(caller + addition, book)
                            new = [spot[0] for spot, thing in later.foremost(0) if thing == addition.thing]
                            found |= {(spot[0], word) for spot, _ in before.foremost(0) for word in new}
            self.assertIn(label[:2], found)

    def test_unknown_cases(self):
        others = [("scope", "elder"), ("scope", "elder", "", ""), ("elder", "scope", ""), ("of", "of", ""), ("", "", "")]
        others += [("all", "all", ""), ("mark", "elder", ""), ["own", "all", ""], ("own", "all", None), "all"]
        others += [(Greedy(), "all", ""), ("own", Touchy(), ""), (["own"], "all", ""), ("own", "all", 0)]
        for value in [*ANY, *others]:
            expect_error(self, "UnknownCase", value, case, value)
            expect_error(self, "UnknownCase", value, case, label=value)


class TableTest(unittest.TestCase):
    def test_three_books(self):
        for book, letters in [(Book.plain(), PLAIN), (Book.strict(), STRICT), (Book.late(), LATE)]:
            wanted = [(label, WORDS[letter]) for label, letter in zip(LABELS, letters.replace(" ", ""))]
            expect(self, wanted, table(book))
            expect(self, wanted, table(book=book))
            table(book).clear()
            expect(self, wanted, table(book))

    def check(self, label, wanted, **parts):
        """The words of a label in all books with these parts, whatever the other parts are."""
        expect(self, wanted, words(Book(**parts))[label])
        for others in [
            {"order": "named=all own", "given": "both"},
            {"alls": "once", "marks": True},
            {"alls": "last", "bodies": "behind", "near": False},
            {"bodies": "never", "spreads": "tie"},
        ]:
            if not set(others) & {part for parts in self.parts_of(label) for part in parts.split()}:
                expect(self, wanted, words(Book(**{**others, **parts}))[label])

    def parts_of(self, label):
        found, added, how = label
        if "elder" in (found, added):
            return ["bodies"]
        if found in ("mark", "once", "import"):
            return ["marks", "alls given"]
        if added in ("member", "spread"):
            return ["spreads near"]
        return ["order alls given"]

    def test_elders(self):
        for bodies, nearer, others, all_added in [
            ("ahead", "changes", "changes", "stays"),
            ("behind", "changes", "stays", "changes"),
            ("never", None, "stays", None),
        ]:
            self.check(("elder", "elder", "nearer"), nearer, bodies=bodies)
            self.check(("elder", "all", ""), all_added, bodies=bodies)
            for found in ("scope", "own", "named", "all"):
                self.check((found, "elder", ""), others, bodies=bodies)

    def test_groups(self):
        for order in ORDERS:
            levels = {group: at for at, level in enumerate(order.split(" ")) for group in level.split("=")}
            for found, added in [("own", "all"), ("named", "all"), ("all", "named")]:
                ahead = levels[found] - levels[added]
                wanted = "breaks" if ahead == 0 else "stays" if ahead < 0 else "changes"
                self.check((found, added, ""), wanted, order=order, given="own")
                both = "breaks" if added == "named" else wanted
                self.check((found, added, ""), both, order=order, given="both")
            for given in ("own", "both"):
                self.check(("named", "named", "other"), "breaks", order=order, given=given)

    def test_imports_of_all_names(self):
        for alls, earlier, later in [
            ("use", "breaks", "breaks"),
            ("once", "breaks", "breaks"),
            ("first", "changes", "stays"),
            ("last", "stays", "changes"),
        ]:
            self.check(("all", "all", "earlier"), earlier, alls=alls)
            self.check(("all", "all", "later"), later, alls=alls)

    def test_ways(self):
        for found in ("all", "named", "of"):
            for how, own in [("ahead", "changes"), ("beside", "breaks"), ("behind", "stays")]:
                self.check((found, found, how), own, given="own")
                self.check((found, found, how), "breaks", given="both")

    def test_members(self):
        for spreads, member, spread in [
            ("member", "changes", "stays"),
            ("spread", "stays", "changes"),
            ("tie", "breaks", "breaks"),
        ]:
            for near in (True, False):
                self.check(("member", "member", "nearer"), "changes", spreads=spreads, near=near)
                self.check(("spread", "member", ""), member, spreads=spreads, near=near)
                self.check(("member", "spread", ""), spread, spreads=spreads, near=near)
                for how, word in [("nearer", "changes"), ("farther", "stays"), ("level", "breaks")]:
                    self.check(("spread", "spread", how), word if near else "breaks", spreads=spreads, near=near)

    def test_without_a_use(self):
        for marks in (True, False):
            self.check(("mark", "member", ""), "breaks" if marks else "stays", marks=marks)
        for given in ("own", "both"):
            for how in ("other", "ahead", "beside", "behind"):
                word = "breaks" if how in ("other", "beside") or given == "both" else "stays"
                for alls in ("use", "once", "first", "last"):
                    self.check(("once", "all", how), word if alls == "once" else "stays", alls=alls, given=given)
                    if how != "other":
                        self.check(("import", "named", how), word, alls=alls, given=given)


class CanTest(unittest.TestCase):
    def test_each_kind_and_word(self):
        for book, wanted in [
            (Book.plain(), [10, 8, 0, None, 24, 26]),
            (Book.strict(), [None, 6, 21, 22, None, 23]),
            (Book.late(), [5, 11, 1, None, 23, 26]),
            (Book(marks=True, alls="last"), [9, 11, 0, 27, 24, 26]),
            (Book(bodies="never", given="both", alls="first"), [8, 10, 21, None, 24, 26]),
            (Book(spreads="tie", near=False), [10, 8, 0, 22, None, 23]),
        ]:
            found = [can(book, kind, word) for kind in ("name", "member", "spread") for word in ("changes", "breaks")]
            expect(self, [None if at is None else LABELS[at] for at in wanted], found)
        expect(self, LABELS[8], can(word="breaks", kind="name", book=Book()))

    def test_the_first_one_of_the_table(self):
        for book in all_books():
            rows = table(book)
            for wanted in ("name", "member", "spread"):
                for word in ("changes", "breaks"):
                    found = [label for label, told in rows if told == word and kind(label) == wanted]
                    self.assertEqual(can(book, wanted, word), found[0] if found else None)

    def test_other_kinds_and_words(self):
        for value in [*ANY, "stays", "elder", "all", ("name",)]:
            for word in ["changes", None, "stays", value]:
                expect_error(self, "BadPart", value, can, Book(), value, word)
        for value in [*ANY, "stays", "name", "member", ("changes",)]:
            for kind in ("name", "member", "spread"):
                expect_error(self, "BadPart", value, can, Book(), kind, value)
                expect_error(self, "BadPart", value, can, word=value, kind=kind, book=Book())


class ExampleTest(unittest.TestCase):
    def test_the_example_of_the_document(self):
        told = [can(Book(), "name", "breaks"), can(Book(), "spread", "changes"), can(Book.strict(), "name", "changes")]
        expect(self, [("all", "all", "earlier"), ("spread", "spread", "nearer"), None], told)
        expect(self, [(("named", "all", ""), "stays"), (("all", "all", "earlier"), "breaks")], table(Book())[7:9])

    def test_a_right_caller_without_uses(self):
        for book in [Book(), Book.strict(), Book.late()]:
            self.assertTrue(is_right(View(Caller(World()), book)))


if __name__ == "__main__":
    unittest.main()
