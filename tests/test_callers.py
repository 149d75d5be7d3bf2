import unittest

from addednames.additions import Addition
from addednames.callers import Caller
from addednames.worlds import World
from support import STRANGE, Greedy, Touchy, expect, expect_error, same

ANY = (*STRANGE, Greedy(), Touchy(), 1)
NO_LISTS = [value for value in [*ANY, "entries", iter([])] if not isinstance(value, (list, tuple))]
WRONG_LISTS = [value for value in ANY if not isinstance(value, (list, tuple)) or value]
NO_INDEXES = [value for value in [*STRANGE, Greedy(), Touchy(), "0", [0], (0,)] if value is not None]
NO_INDEXES = [value for value in NO_INDEXES if not same(value, 0)]


def small():
    return World(
        [("l", [("a", 1)], ["m"], [("k", "s", 2)]), ("m", [("b", 3)], [], [])],
        [("k", None, [("x", 4)]), ("o", "k", [("y", 5), ("w", 6)])],
    )


IMPORTS = [("named", "l", "a", "c"), ("all", "m"), ("whole", "l"), ("all", "m"), ("named", "m", "q", "c")]
OWN = [("b", 11), ("a", 12)]
CLASSES = [("h", "o", [("y", 13, True), ("x", 14, False)]), ("i", "h", []), ("j", None, [("z", 15, False)])]
SCOPES = [("block", None, [("d", 16), ("a", 17)]), ("body", 0, "i"), ("block", 1, []), ("block", 0, [("d", 18)])]
USES = [("name", None, "a"), ("name", 2, "d"), ("member", "h", "x"), ("member", "k", "q"), ("of", "l", "b")]


def full(**changed):
    parts = {"imports": IMPORTS, "own": OWN, "classes": CLASSES, "scopes": SCOPES, "uses": USES, **changed}
    return Caller(small(), **parts)


def tuples(value):
    return tuple(tuples(item) for item in value) if isinstance(value, (list, tuple)) else value


def parts(caller):
    return [caller.imports, caller.own, caller.classes, caller.scopes, caller.uses]


class TellsTest(unittest.TestCase):
    def test_parts_are_tuples(self):
        caller = full()
        expect(self, [tuples(part) for part in [IMPORTS, OWN, CLASSES, SCOPES, USES]], parts(caller))
        self.assertTrue(caller.world == small())
        expect(self, 5, len(caller))

    def test_an_empty_caller(self):
        for caller in [Caller(small()), Caller(small(), []), Caller(world=small(), imports=())]:
            expect(self, [(), (), (), (), ()], parts(caller))
            expect(self, 0, len(caller))

    def test_imports_by_position_and_all_else_by_name(self):
        expect(self, tuples(IMPORTS), Caller(small(), IMPORTS).imports)
        with self.assertRaises(TypeError):
            Caller(small(), IMPORTS, OWN)

    def test_handed_in_lists_are_not_kept(self):
        lists = [list(part) for part in [IMPORTS, OWN, CLASSES, SCOPES, USES]]
        members, held = [("y", 13, True), ("x", 14, False)], [("d", 16), ("a", 17)]
        lists[2][0], lists[3][0] = ("h", "o", members), ("block", None, held)
        caller = Caller(small(), lists[0], own=lists[1], classes=lists[2], scopes=lists[3], uses=lists[4])
        for rows in [*lists, members, held]:
            rows.clear()
        expect(self, [tuples(part) for part in [IMPORTS, OWN, CLASSES, SCOPES, USES]], parts(caller))
        expect(self, {"y": 13, "x": 14}, caller.members_of("h"))

    def test_arguments_are_not_changed(self):
        lists = [list(part) for part in [IMPORTS, OWN, CLASSES, SCOPES, USES]]
        caller = Caller(small(), lists[0], own=lists[1], classes=lists[2], scopes=lists[3], uses=lists[4])
        caller + Addition(("name", "l", "z"), 99)
        expect(self, [IMPORTS, OWN, CLASSES, SCOPES, USES], lists)

    def test_tuples_where_lists_are_asked_for(self):
        lists = [tuples(part) for part in [IMPORTS, OWN, CLASSES, SCOPES, USES]]
        caller = Caller(small(), lists[0], own=lists[1], classes=lists[2], scopes=lists[3], uses=lists[4])
        self.assertTrue(caller == full())

    def test_things(self):
        caller = full()
        for thing in range(1, 20):
            expect(self, 11 <= thing <= 18, thing in caller)
        for value in [*ANY, "11", 1000000001, ("a", 12)]:
            expect(self, False, value in caller)
            expect(self, False, value in Caller(small()))
        one = Caller(small(), own=[("a", 7)])
        expect(self, [True, False], [7 in one, True in Caller(World(), own=[("a", 1)])])

    def test_chains(self):
        caller = full()
        for name, names in [
            ("h", ["h", "o", "k"]),
            ("i", ["i", "h", "o", "k"]),
            ("j", ["j"]),
            ("o", ["o", "k"]),
            ("k", ["k"]),
        ]:
            expect(self, names, caller.chain(name))
            expect(self, names, caller.chain(name=name))

    def test_members(self):
        caller = full()
        for name, members in [
            ("h", {"y": 13, "x": 14}),
            ("i", {}),
            ("j", {"z": 15}),
            ("o", {"y": 5, "w": 6}),
            ("k", {"x": 4}),
        ]:
            expect(self, members, caller.members_of(name))
            caller.members_of(name=name).clear()
            expect(self, members, caller.members_of(name))

    def test_unknown_classes(self):
        for value in [*ANY, "z", "l", "x", ["h"], ("h",)]:
            for caller in [full(), Caller(small())]:
                expect_error(self, "UnknownName", value, caller.chain, value)
                expect_error(self, "UnknownName", value, caller.members_of, value)

    def test_around(self):
        caller = full()
        for scope, indexes in [(None, []), (0, [0]), (1, [1, 0]), (2, [2, 1, 0]), (3, [3, 0])]:
            expect(self, indexes, caller.around(scope))
            expect(self, indexes, caller.around(scope=scope))
            caller.around(scope).clear()
            expect(self, indexes, caller.around(scope))
        expect(self, [], Caller(small()).around(None))

    def test_around_other_values(self):
        caller = full()
        for value in [*NO_INDEXES, 4, 100, -1, -4]:
            expect_error(self, "BadScope", value, caller.around, value)
        expect_error(self, "BadScope", 0, Caller(small()).around, 0)
        expect_error(self, "BadScope", True, caller.around, True)
        expect_error(self, "BadScope", False, caller.around, False)


class BadImportTest(unittest.TestCase):
    def check(self, index, *imports):
        expect_error(self, "BadImport", index, full, imports=list(imports))
        expect_error(self, "BadImport", index, full, imports=imports)

    def test_no_list(self):
        for value in NO_LISTS:
            expect_error(self, "BadImport", None, Caller, small(), value)

    def test_forms(self):
        for value in [*ANY, "all", ["all", "l"], ("all",), ("all", "l", "a"), ("all", "l", "a", "b")]:
            self.check(0, value)
            self.check(1, ("all", "m"), value)
        for entry in [("named", "l"), ("named", "l", "a"), ("named", "l", "a", "b", "c"), ("whole", "l", "a", "b")]:
            self.check(0, entry)
        for entry in [("whole",), ("whole", "l", "a"), ["named", "l", "a", "c"], ("own", "l"), ("of", "l", "a", "b")]:
            self.check(0, entry)

    def test_words(self):
        for value in ANY:
            self.check(0, (value, "l"))
            self.check(0, (value, "l", "a", "b"))

    def test_names(self):
        for value in ANY:
            self.check(0, ("named", value, "a", "b"))
            self.check(0, ("named", "l", value, "b"))
            self.check(0, ("named", "l", "a", value))
            self.check(0, ("all", value))
            self.check(0, ("whole", value))

    def test_unknown_libraries(self):
        for name in ["z", "k", "a"]:
            self.check(1, ("all", "l"), ("named", name, "a", "b"))
            self.check(1, ("all", "l"), ("all", name))
            self.check(1, ("all", "l"), ("whole", name))

    def test_the_first_wrong_entry_counts(self):
        self.check(1, ("all", "l"), ("all", "z"), 5)
        self.check(1, ("all", "l"), 5, ("all", "z"))

    def test_the_same_import_may_come_twice(self):
        rows = [("named", "l", "a", "a")] * 2 + [("all", "l")] * 2 + [("whole", "l")] * 2
        expect(self, tuple(rows), Caller(small(), rows).imports)


class BadOwnTest(unittest.TestCase):
    def check(self, index, *own):
        expect_error(self, "BadOwn", index, full, own=list(own))
        expect_error(self, "BadOwn", index, full, own=own)

    def test_no_list(self):
        for value in NO_LISTS:
            expect_error(self, "BadOwn", None, full, own=value)

    def test_forms(self):
        for value in [*ANY, "aa", ["a", 11], ("a",), ("a", 11, False)]:
            self.check(0, value)
            self.check(1, ("b", 12), value)
        for value in ANY:
            self.check(0, (value, 11))
        for value in [*STRANGE, Greedy(), Touchy(), 1000000001]:
            self.check(0, ("a", value))

    def test_names_that_come_twice(self):
        self.check(1, ("a", 11), ("a", 12))
        self.check(2, ("a", 11), ("b", 12), ("a", 13), 5)


class BadClassTest(unittest.TestCase):
    def check(self, index, *classes):
        expect_error(self, "BadClass", index, Caller, small(), classes=list(classes))
        expect_error(self, "BadClass", index, Caller, small(), classes=classes)

    def test_no_list(self):
        for value in NO_LISTS:
            expect_error(self, "BadClass", None, full, classes=value)

    def test_forms(self):
        for value in [*ANY, "hhh", ["h", None, []], ("h", None), ("h", None, [], [])]:
            self.check(0, value)
            self.check(1, ("h", None, []), value)
        for value in ANY:
            self.check(0, (value, None, []))
            self.check(0, ("h", None, [value]))
            self.check(0, ("h", None, [("a", 11, True), value]))
            self.check(0, ("h", None, [(value, 11, True)]))
            if value is not None:
                self.check(0, ("h", value, []))
            if not isinstance(value, bool):
                self.check(0, ("h", None, [("a", 11, value)]))
        for value in WRONG_LISTS:
            self.check(0, ("h", None, value))
        for value in [*STRANGE, Greedy(), Touchy(), 1000000001]:
            self.check(0, ("h", None, [("a", value, True)]))

    def test_members(self):
        for member in [["a", 11, True], ("a", 11), ("a", 11, True, True), ("a", 11, 1), ("a", 11, 0), ("a", 11, None)]:
            self.check(0, ("h", None, [member]))

    def test_names_that_come_twice(self):
        self.check(0, ("k", None, []))
        self.check(1, ("h", None, []), ("o", None, []))
        self.check(1, ("h", None, []), ("h", None, []))
        self.check(0, ("h", None, [("a", 11, True), ("a", 12, False)]))
        self.check(1, ("i", None, []), ("h", None, [("b", 11, True), ("a", 12, True), ("b", 13, True)]))

    def test_elders(self):
        self.check(0, ("h", "z", []))
        self.check(0, ("h", "h", []))
        self.check(0, ("h", "l", []))
        self.check(0, ("h", "i", []), ("i", None, []))
        expect(self, ["i", "h", "k"], Caller(small(), classes=[("h", "k", []), ("i", "h", [])]).chain("i"))

    def test_the_first_wrong_entry_counts(self):
        self.check(1, ("h", None, []), ("h", None, []), 5)
        self.check(1, ("h", None, []), 5, ("h", None, []))

    def test_libraries_may_share_a_name(self):
        expect(self, ["l"], Caller(small(), classes=[("l", None, [])]).chain("l"))


class BadScopeTest(unittest.TestCase):
    def check(self, index, *scopes):
        expect_error(self, "BadScope", index, full, scopes=list(scopes))
        expect_error(self, "BadScope", index, full, scopes=scopes)

    def test_no_list(self):
        for value in NO_LISTS:
            expect_error(self, "BadScope", None, full, scopes=value)

    def test_forms(self):
        first = ("block", None, [])
        for value in [*ANY, "block", ["block", None, []], ("block", None), ("block", None, [], []), ("body", None)]:
            self.check(0, value)
            self.check(1, first, value)
        for value in [*ANY, "name", "blocks", "own"]:
            self.check(0, (value, None, []))
            self.check(0, (value, None, "h"))
        self.check(0, ["body", None, "h"])
        self.check(0, ("body", None, "h", "h"))

    def test_parents(self):
        for value in [*NO_INDEXES, 1, 2, -1]:
            self.check(1, ("block", None, []), ("block", value, []))
            self.check(1, ("block", None, []), ("body", value, "h"))
        self.check(0, ("block", 0, []))
        self.check(0, ("body", 0, "h"))
        self.check(1, ("block", None, []), ("block", 2, []), ("block", None, []))

    def test_true_and_false_are_no_indexes(self):
        self.check(2, ("block", None, []), ("block", None, []), ("block", True, []))
        self.check(1, ("block", None, []), ("body", False, "h"))

    def test_locals(self):
        for value in ANY:
            self.check(0, ("block", None, [value]))
            self.check(0, ("block", None, [("a", 21), value]))
            self.check(0, ("block", None, [(value, 21)]))
        for value in WRONG_LISTS:
            self.check(0, ("block", None, value))
        for value in [*STRANGE, Greedy(), Touchy(), 1000000001]:
            self.check(0, ("block", None, [("a", value)]))
        for row in [["a", 21], ("a",), ("a", 21, True)]:
            self.check(0, ("block", None, [row]))
        self.check(0, ("block", None, "h"))
        self.check(1, ("block", None, []), ("block", None, [("a", 21), ("b", 22), ("a", 23)]))

    def test_classes(self):
        for value in [*ANY, "k", "o", "z", "l", [("a", 21)]]:
            self.check(0, ("body", None, value))

    def test_the_same_class_may_have_several_bodies(self):
        rows = (("body", None, "h"), ("body", 0, "h"), ("body", None, "h"))
        expect(self, rows, full(scopes=rows).scopes)

    def test_four_deep_and_five_deep(self):
        four = [("block", None, []), ("body", 0, "h"), ("block", 1, []), ("body", 2, "i")]
        expect(self, [3, 2, 1, 0], full(scopes=four).around(3))
        self.check(4, *four, ("block", 3, []))
        self.check(4, *four, ("body", 3, "j"))
        self.check(6, *four, ("block", 2, []), ("block", 0, []), ("block", 4, []))
        row = [*four, ("block", 2, []), ("block", 0, []), ("block", 5, []), ("block", 6, []), ("block", None, [])]
        expect(self, [7, 6, 5, 0], full(scopes=row).around(7))
        self.check(9, *row, ("block", 7, []))

    def test_the_first_wrong_entry_counts(self):
        self.check(1, ("block", None, []), ("block", 5, []), 5)
        self.check(1, ("block", None, []), 5, ("block", 5, []))


class BadUseTest(unittest.TestCase):
    def check(self, index, *uses):
        for rows in [list(uses), uses]:
            expect_error(self, "BadUse", index, full, uses=rows)
            expect_error(self, "BadUse", index, full().with_uses, rows)

    def test_no_list(self):
        for value in NO_LISTS:
            expect_error(self, "BadUse", None, full, uses=value)
            expect_error(self, "BadUse", None, full().with_uses, value)

    def test_forms(self):
        right = ("name", None, "a")
        for value in [*ANY, "name", list(right), ("name", None), (*right, "a"), ("member", "k"), ("of", "l")]:
            self.check(0, value)
            self.check(1, right, value)
        for value in [*ANY, "names", "all", "whole"]:
            for at in [None, 0, "k", "l"]:
                self.check(0, (value, at, "a"))
        for value in ANY:
            for start in [("name", None), ("name", 0), ("member", "k"), ("of", "l")]:
                self.check(0, (*start, value))

    def test_scopes(self):
        for value in [*NO_INDEXES, 4, -1, 100, "a"]:
            self.check(0, ("name", value, "a"))
        expect_error(self, "BadUse", 0, Caller, small(), uses=[("name", 0, "a")])

    def test_true_and_false_are_no_indexes(self):
        self.check(0, ("name", True, "a"))
        self.check(0, ("name", False, "a"))

    def test_classes(self):
        for value in [*ANY, "z", "l", "x", 0]:
            self.check(0, ("member", value, "a"))
        rows = tuple(("member", name, "a") for name in "hijko")
        expect(self, rows, full(uses=rows).uses)

    def test_libraries(self):
        for value in [*ANY, "m", "z", "k", 2]:
            self.check(0, ("of", value, "a"))
        expect_error(self, "BadUse", 0, full, imports=[("all", "l"), ("named", "l", "a", "a")], uses=[("of", "l", "a")])

    def test_the_first_wrong_entry_counts(self):
        self.check(1, ("name", None, "a"), ("name", 9, "a"), 5)
        self.check(1, ("name", None, "a"), 5, ("name", 9, "a"))


class BadThingTest(unittest.TestCase):
    def check(self, thing, **named):
        expect_error(self, "BadThing", thing, Caller, small(), **named)

    def test_things_of_the_world(self):
        for thing in range(1, 7):
            self.check(thing, own=[("q", 11), ("r", thing)])
            self.check(thing, classes=[("h", None, [("q", 11, True), ("r", thing, True)])])
            self.check(thing, scopes=[("block", None, [("q", 11), ("r", thing)])])

    def test_things_that_come_twice(self):
        own, members, held = [("a", 11)], [("a", 11, False)], [("a", 11)]
        self.check(11, own=[("a", 11), ("b", 11)])
        self.check(11, classes=[("h", None, [("a", 11, True), ("b", 11, True)])])
        self.check(11, classes=[("h", None, members), ("i", None, members)])
        self.check(11, scopes=[("block", None, [("a", 11), ("b", 11)])])
        self.check(11, scopes=[("block", None, held), ("block", None, held)])
        self.check(11, own=own, classes=[("h", None, members)])
        self.check(11, own=own, scopes=[("block", None, held)])
        self.check(11, classes=[("h", None, members)], scopes=[("block", None, held)])

    def test_the_first_one_counts(self):
        first, second, third = [("a", 11), ("b", 12)], [("c", 13, True), ("a", 11, True)], [("d", 13), ("b", 12)]
        classes, scopes = [("h", None, second)], [("block", None, third)]
        self.check(11, own=first, classes=classes, scopes=scopes)
        self.check(13, own=[("b", 12)], classes=classes, scopes=scopes)
        self.check(2, own=[("a", 2), ("b", 1)])
        self.check(12, own=[("a", 11), ("b", 12), ("c", 12), ("d", 11)])
        self.check(1, own=first, classes=[("h", None, [("a", 1, True)])], scopes=[("block", None, [("a", 11)])])


class OrderOfErrorsTest(unittest.TestCase):
    def test_each_error_is_ahead_of_the_later_ones(self):
        wrong = [("imports", "BadImport"), ("own", "BadOwn"), ("classes", "BadClass"), ("scopes", "BadScope")]
        wrong.append(("uses", "BadUse"))
        for start, (_, name) in enumerate(wrong):
            late = [part for part, _ in wrong[start:]]
            expect_error(self, name, None, Caller, small(), **{part: None for part in reversed(late)})
            expect_error(self, name, 0, Caller, small(), **{part: [5] for part in reversed(late)})

    def test_bad_thing_comes_last(self):
        own = [("a", 1)]
        expect_error(self, "BadThing", 1, Caller, small(), own=own)
        expect_error(self, "BadUse", 0, Caller, small(), own=own, uses=[5])
        expect_error(self, "BadScope", 0, Caller, small(), own=own, scopes=[5])
        expect_error(self, "BadClass", 0, Caller, small(), own=own, classes=[5])
        expect_error(self, "BadImport", 0, Caller, small(), [5], own=own)
        expect_error(self, "BadOwn", 1, Caller, small(), own=[*own, 5])


class WithUsesTest(unittest.TestCase):
    def test_other_uses(self):
        caller = full()
        uses = [("name", 3, "q"), ("of", "l", "a")]
        changed = caller.with_uses(uses=uses)
        self.assertTrue(changed == full(uses=uses))
        uses.clear()
        expect(self, (("name", 3, "q"), ("of", "l", "a")), changed.uses)
        expect(self, 2, len(changed))
        expect(self, parts(caller)[:4], parts(changed)[:4])
        self.assertTrue(changed.world == small())
        self.assertTrue(caller == full())
        expect(self, (), caller.with_uses(()).uses)


class PlusTest(unittest.TestCase):
    def test_each_kind_of_place(self):
        for place in [("name", "m", "a"), ("member", "k", "y"), ("spread", "m", "o", "s")]:
            addition = Addition(place, 7)
            caller = full()
            grown = caller + addition
            self.assertTrue(grown == addition + caller)
            self.assertIsInstance(addition + caller, Caller)
            self.assertTrue(grown.world == small() + addition)
            expect(self, parts(caller), parts(grown))
            expect(self, place, grown.world[7])
            expect(self, False, 7 in grown)
            self.assertTrue(caller == full())
            self.assertTrue(caller.world == small())
            self.assertFalse(grown == caller)

    def check(self, name, value, place, thing):
        addition, caller = Addition(place, thing), full()
        expect_error(self, name, value, lambda: caller + addition)
        expect_error(self, name, value, lambda: addition + caller)
        self.assertTrue(caller == full())

    def test_errors(self):
        self.check("UnknownName", "z", ("name", "z", "a"), 7)
        self.check("UnknownName", "h", ("member", "h", "a"), 7)
        self.check("UnknownName", "z", ("spread", "z", "y", "a"), 7)
        self.check("UnknownName", "h", ("spread", "l", "h", "a"), 7)
        self.check("AlreadyThere", ("name", "l", "a"), ("name", "l", "a"), 7)
        for thing in [1, 2, 3, 4, 5, 6, 11, 12, 13, 14, 15, 16, 17, 18]:
            self.check("BadThing", thing, ("name", "m", "a"), thing)

    def test_the_order_of_the_errors(self):
        for thing in [1, 11]:
            self.check("UnknownName", "z", ("name", "z", "a"), thing)
            self.check("AlreadyThere", ("member", "k", "x"), ("member", "k", "x"), thing)

    def test_other_values_cannot_be_added(self):
        for value in [1, None, "a", small(), full(), [], object(), ("name", "m", "a")]:
            with self.assertRaises(TypeError):
                full() + value
            with self.assertRaises(TypeError):
                value + full()


class EqualTest(unittest.TestCase):
    def test_equal_callers(self):
        self.assertIs(full() == full(), True)
        self.assertIs(full() != full(), False)
        self.assertIs(Caller(small()) == Caller(small(), [], own=[], classes=[], scopes=[], uses=[]), True)

    def test_each_part_counts(self):
        for changed in [
            {"imports": IMPORTS[:4]},
            {"imports": [("named", "l", "a", "d"), *IMPORTS[1:]]},
            {"imports": [IMPORTS[1], IMPORTS[0], *IMPORTS[2:]]},
            {"own": OWN[:1]},
            {"own": OWN[::-1]},
            {"own": [("b", 11), ("a", 19)]},
            {"classes": [*CLASSES, ("p", None, [])]},
            {"classes": [CLASSES[0], CLASSES[2], CLASSES[1]]},
            {"classes": [("h", "k", CLASSES[0][2]), *CLASSES[1:]]},
            {"classes": [("h", "o", CLASSES[0][2][::-1]), *CLASSES[1:]]},
            {"classes": [("h", "o", [("y", 13, True), ("x", 14, True)]), *CLASSES[1:]]},
            {"scopes": SCOPES[:3]},
            {"scopes": [*SCOPES[:3], ("block", 1, [("d", 18)])]},
            {"scopes": [("block", None, [("a", 17), ("d", 16)]), *SCOPES[1:]]},
            {"uses": USES[:4]},
            {"uses": USES[::-1]},
            {"uses": [("name", 0, "a"), *USES[1:]]},
        ]:
            self.assertIs(full(**changed) == full(), False, changed)
            self.assertIs(full(**changed) != full(), True, changed)

    def test_the_world_counts(self):
        other = Caller(World(), [])
        self.assertIs(other == Caller(World([("l", [], [], [])])), False)
        self.assertIs(other == Caller(World()), True)

    def test_values_of_other_classes(self):
        for value in [*STRANGE, Greedy(), small(), ()]:
            self.assertIs(Caller(small()) == value, False)
            self.assertIs(Caller(small()) != value, True)


if __name__ == "__main__":
    unittest.main()
