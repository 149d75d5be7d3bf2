import unittest

from addednames.additions import Addition
from addednames.worlds import World
from support import STRANGE, Greedy, Touchy, expect, expect_error

ANY = (*STRANGE, Greedy(), Touchy())


def small():
    return World(
        [
            ("l", [("b", 4), ("a", 3)], ["n", "m"], [("h", "c", 7), ("k", "c", 6), ("k", "b", 5)]),
            ("m", [("a", 8)], ["l"], []),
            ("n", [], [], [("k", "c", 9)]),
        ],
        [("k", None, [("y", 2), ("x", 1)]), ("h", "k", [("x", 10)]), ("o", None, [])],
    )


class TellsTest(unittest.TestCase):
    def test_names(self):
        expect(self, ["l", "m", "n"], small().library_names())
        expect(self, ["k", "h", "o"], small().class_names())

    def test_libraries(self):
        world = small()
        expect(self, {"b": 4, "a": 3}, world.names_of("l"))
        expect(self, {"a": 8}, world.names_of(library="m"))
        expect(self, {}, world.names_of("n"))
        expect(self, ["n", "m"], world.gives_of("l"))
        expect(self, ["l"], world.gives_of(library="m"))
        expect(self, [], world.gives_of("n"))
        expect(self, [("h", "c", 7), ("k", "c", 6), ("k", "b", 5)], world.spreads_of("l"))
        expect(self, [], world.spreads_of("m"))
        expect(self, [("k", "c", 9)], world.spreads_of(library="n"))

    def test_classes(self):
        world = small()
        expect(self, None, world.elder_of("k"))
        expect(self, "k", world.elder_of(name="h"))
        expect(self, None, world.elder_of("o"))
        expect(self, {"y": 2, "x": 1}, world.members_of("k"))
        expect(self, {"x": 10}, world.members_of(name="h"))
        expect(self, {}, world.members_of("o"))

    def test_things(self):
        world = small()
        expect(self, 10, len(world))
        places = {
            1: ("member", "k", "x"),
            2: ("member", "k", "y"),
            3: ("name", "l", "a"),
            4: ("name", "l", "b"),
            5: ("spread", "l", "k", "b"),
            6: ("spread", "l", "k", "c"),
            7: ("spread", "l", "h", "c"),
            8: ("name", "m", "a"),
            9: ("spread", "n", "k", "c"),
            10: ("member", "h", "x"),
        }
        for thing, place in places.items():
            expect(self, place, world[thing])
            expect(self, True, thing in world)

    def test_other_values_are_no_things(self):
        for value in [*ANY, 11, 1000000001, "1", ("name", "l", "a")]:
            expect(self, False, value in small())
            expect_error(self, "UnknownThing", value, lambda: small()[value])

    def test_unknown_names(self):
        world = small()
        for value in [*ANY, "z", "k", "a", 1, ["l"], ("l",)]:
            for call in [world.names_of, world.gives_of, world.spreads_of]:
                expect_error(self, "UnknownName", value, call, value)
        for value in [*ANY, "z", "l", "x", 1, ["k"], ("k",)]:
            for call in [world.elder_of, world.members_of]:
                expect_error(self, "UnknownName", value, call, value)

    def test_an_empty_world(self):
        for world in [World(), World([], []), World((), ())]:
            expect(self, [], world.library_names())
            expect(self, [], world.class_names())
            expect(self, 0, len(world))
            expect(self, False, 1 in world)
        self.assertTrue(World() == World([], []))

    def test_a_world_is_not_iterated(self):
        with self.assertRaises(TypeError):
            iter(small())

    def test_libraries_and_classes_may_share_a_name(self):
        world = World([("a", [("a", 1)], [], [("a", "a", 2)])], [("a", None, [("a", 3)])])
        expect(self, [("name", "a", "a"), ("spread", "a", "a", "a"), ("member", "a", "a")], [world[1], world[2], world[3]])


class NewTest(unittest.TestCase):
    def test_returned_lists_and_dicts_are_new(self):
        world = small()
        for call, args in [
            (world.library_names, ()),
            (world.class_names, ()),
            (world.gives_of, ("l",)),
            (world.spreads_of, ("l",)),
            (world.names_of, ("l",)),
            (world.members_of, ("k",)),
        ]:
            call(*args).clear()
            self.assertTrue(call(*args))
            self.assertIsNot(call(*args), call(*args))
        self.assertTrue(world == small())

    def test_handed_in_lists_are_not_kept(self):
        names, gives, spreads, members = [("a", 1)], ["m"], [("k", "b", 2)], [("c", 3)]
        libraries, classes = [("l", names, gives, spreads), ("m", [], [], [])], [("k", None, members)]
        world = World(libraries, classes)
        for rows in [names, gives, spreads, members, libraries, classes]:
            rows.clear()
        expect(self, ["l", "m"], world.library_names())
        expect(self, ["k"], world.class_names())
        expect(self, {"a": 1}, world.names_of("l"))
        expect(self, ["m"], world.gives_of("l"))
        expect(self, [("k", "b", 2)], world.spreads_of("l"))
        expect(self, {"c": 3}, world.members_of("k"))

    def test_arguments_are_not_changed(self):
        libraries = [("l", [("a", 1)], ["m"], [("k", "b", 2)]), ("m", [], [], [])]
        classes = [("k", None, [("c", 3)])]
        World(libraries, classes) + Addition(("name", "l", "b"), 4)
        expect(self, [("l", [("a", 1)], ["m"], [("k", "b", 2)]), ("m", [], [], [])], libraries)
        expect(self, [("k", None, [("c", 3)])], classes)

    def test_tuples_where_lists_are_asked_for(self):
        first = World((("l", (("a", 1),), ("m",), (("k", "b", 2),)), ("m", (), (), ())), (("k", None, (("c", 3),)),))
        second = World(
            classes=[("k", None, [("c", 3)])],
            libraries=[("l", [("a", 1)], ["m"], [("k", "b", 2)]), ("m", [], [], [])],
        )
        self.assertTrue(first == second)
        expect(self, ["m"], first.gives_of("l"))
        expect(self, [("k", "b", 2)], first.spreads_of("l"))


class BadClassTest(unittest.TestCase):
    def check(self, index, *classes):
        expect_error(self, "BadClass", index, World, [], list(classes))
        expect_error(self, "BadClass", index, World, classes=classes)

    def test_no_list(self):
        for value in [*ANY, "classes", iter([])]:
            if not isinstance(value, (list, tuple)):
                expect_error(self, "BadClass", None, World, [], value)

    def test_entries_that_are_no_tuples(self):
        for value in [*ANY, "kkk", ["k", None, []]]:
            self.check(0, value)
            self.check(1, ("k", None, []), value)

    def test_entries_of_another_length(self):
        self.check(0, ("k", None))
        self.check(0, ("k",))
        self.check(0, ("k", None, [], []))

    def test_names(self):
        for value in [*ANY, 1]:
            self.check(0, (value, None, []))

    def test_elders(self):
        for value in [*ANY, 1]:
            if value is not None:
                self.check(0, ("k", value, []))
        self.check(0, ("k", "h", []), ("h", None, []))
        self.check(0, ("k", "k", []))
        self.check(1, ("k", None, []), ("h", "o", []))
        self.check(1, ("h", None, []), ("k", "k", []))

    def test_members(self):
        for value in [*ANY, 1]:
            if not isinstance(value, (list, tuple)) or value:
                self.check(0, ("k", None, value))
            self.check(0, ("k", None, [value]))
            self.check(0, ("k", None, [("a", 1), value]))
            self.check(0, ("k", None, [(value, 1)]))
        for value in [*ANY, 1000000001]:
            self.check(0, ("k", None, [("a", value)]))
        self.check(0, ("k", None, [["a", 1]]))
        self.check(0, ("k", None, [("a", 1, True)]))
        self.check(0, ("k", None, [("a",)]))

    def test_names_that_come_twice(self):
        self.check(1, ("k", None, []), ("k", None, []))
        self.check(2, ("k", None, []), ("h", None, []), ("k", None, []))
        self.check(0, ("k", None, [("a", 1), ("a", 2)]))
        self.check(1, ("h", None, [("a", 1)]), ("k", None, [("a", 2), ("b", 3), ("a", 4)]))

    def test_the_first_wrong_entry_counts(self):
        self.check(1, ("k", None, []), ("h", "o", []), 5, ("k", None, []))
        self.check(1, ("k", None, []), ("k", None, []), ("o", "p", []))

    def test_ahead_of_all_other_errors(self):
        expect_error(self, "BadClass", None, World, None, None)
        expect_error(self, "BadClass", 0, World, [5], [5])
        expect_error(self, "BadClass", 1, World, None, [("k", None, [("a", 1), ("b", 1)]), 5])


class BadLibraryTest(unittest.TestCase):
    classes = [("k", None, [])]

    def check(self, index, *libraries):
        expect_error(self, "BadLibrary", index, World, list(libraries), self.classes)
        expect_error(self, "BadLibrary", index, World, libraries=libraries, classes=self.classes)

    def test_no_list(self):
        for value in [*ANY, "libraries", iter([])]:
            if not isinstance(value, (list, tuple)):
                expect_error(self, "BadLibrary", None, World, value)

    def test_entries_that_are_no_tuples(self):
        for value in [*ANY, "llll", ["l", [], [], []]]:
            self.check(0, value)
            self.check(1, ("l", [], [], []), value)

    def test_entries_of_another_length(self):
        self.check(0, ("l", [], []))
        self.check(0, ("l", [], [], [], []))

    def test_names(self):
        for value in [*ANY, 1]:
            self.check(0, (value, [], [], []))

    def test_own_names(self):
        for value in [*ANY, 1]:
            if not isinstance(value, (list, tuple)) or value:
                self.check(0, ("l", value, [], []))
            self.check(0, ("l", [value], [], []))
            self.check(0, ("l", [(value, 1)], [], []))
        for value in [*ANY, 1000000001]:
            self.check(0, ("l", [("a", value)], [], []))
        self.check(0, ("l", [["a", 1]], [], []))
        self.check(0, ("l", [("a", 1, 1)], [], []))

    def test_libraries_that_it_gives_on(self):
        for value in [*ANY, 1]:
            if not isinstance(value, (list, tuple)) or value:
                self.check(0, ("l", [], value, []))
            self.check(0, ("l", [], [value], []))

    def test_spreads(self):
        for value in [*ANY, 1]:
            if not isinstance(value, (list, tuple)) or value:
                self.check(0, ("l", [], [], value))
            self.check(0, ("l", [], [], [value]))
            self.check(0, ("l", [], [], [(value, "a", 1)]))
            self.check(0, ("l", [], [], [("k", value, 1)]))
        for value in [*ANY, 1000000001]:
            self.check(0, ("l", [], [], [("k", "a", value)]))
        self.check(0, ("l", [], [], [["k", "a", 1]]))
        self.check(0, ("l", [], [], [("k", "a")]))
        self.check(0, ("l", [], [], [("k", "a", 1, 1)]))

    def test_names_that_come_twice(self):
        self.check(1, ("l", [], [], []), ("l", [], [], []))
        self.check(2, ("l", [], [], []), ("m", [], [], []), ("l", [], [], []))
        self.check(0, ("l", [("a", 1), ("b", 2), ("a", 3)], [], []))
        self.check(1, ("m", [], [], []), ("l", [], ["m", "m"], []))
        self.check(0, ("l", [], [], [("k", "a", 1), ("k", "b", 2), ("k", "a", 3)]))

    def test_given_on_wrongly(self):
        self.check(0, ("l", [], ["l"], []))
        self.check(1, ("m", [], [], []), ("l", [], ["m", "l"], []))
        self.check(0, ("l", [], ["m"], []))
        self.check(1, ("l", [], [], []), ("m", [], ["l", "n"], []))
        self.check(0, ("l", [], ["k"], []))

    def test_given_on_is_a_name_of_an_entry_of_the_form(self):
        self.check(0, ("l", [], ["m"], []), ("m", [], []))
        self.check(0, ("l", [], ["m"], []), ("m", [("a", 0)], [], []))
        self.check(0, ("l", [], ["m"], []), ["m", [], [], []])
        self.check(1, ("l", [], ["m"], []), ("m", [], ["m"], []))
        self.check(1, ("l", [], ["m"], []), ("m", [("a", 1), ("a", 2)], [], []))
        self.check(1, ("l", [], ["m"], []), 5, ("m", [], [], []))

    def test_spreads_on_unknown_classes(self):
        self.check(0, ("l", [], [], [("h", "a", 1)]))
        self.check(1, ("m", [], [], []), ("l", [], [], [("k", "a", 1), ("l", "a", 2)]))
        expect_error(self, "BadLibrary", 0, World, [("l", [], [], [("k", "a", 1)])])

    def test_the_same_name_is_spread_on_several_classes(self):
        rows = [("k", "a", 1), ("h", "a", 2), ("k", "b", 3)]
        world = World([("l", [], [], rows), ("m", [], [], [("k", "a", 4)])], [("k", None, []), ("h", None, [])])
        expect(self, rows, world.spreads_of("l"))

    def test_the_first_wrong_entry_counts(self):
        self.check(1, ("l", [], [], []), ("m", [], ["n"], []), 5)
        self.check(1, ("l", [], [], []), ("l", [], [], []), 5)

    def test_ahead_of_bad_things(self):
        self.check(1, ("l", [("a", 1), ("b", 1)], [], []), 5)
        expect_error(self, "BadLibrary", None, World, None, [("k", None, [("a", 1), ("b", 1)])])

    def test_rings(self):
        world = World([("l", [], ["m"], []), ("m", [], ["n", "l"], []), ("n", [], ["l"], [])])
        expect(self, [["m"], ["n", "l"], ["l"]], [world.gives_of(name) for name in "lmn"])


class BadThingTest(unittest.TestCase):
    def check(self, thing, libraries, classes=()):
        expect_error(self, "BadThing", thing, World, libraries, classes)

    def test_each_kind_of_place(self):
        self.check(1, [], [("k", None, [("a", 1), ("b", 1)])])
        self.check(1, [], [("k", None, [("a", 1)]), ("h", None, [("a", 1)])])
        self.check(1, [("l", [("a", 1), ("b", 1)], [], [])])
        self.check(1, [("l", [("a", 1)], [], []), ("m", [("a", 1)], [], [])])
        self.check(1, [("l", [("a", 1)], [], [])], [("k", None, [("a", 1)])])
        self.check(1, [("l", [], [], [("k", "a", 1), ("k", "b", 1)])], [("k", None, [])])
        self.check(1, [("l", [("a", 1)], [], [("k", "a", 1)])], [("k", None, [])])
        self.check(1, [("l", [], [], [("k", "a", 1)]), ("m", [("a", 1)], [], [])], [("k", None, [])])
        self.check(1, [("l", [], [], [("k", "a", 1)]), ("m", [], [], [("k", "a", 1)])], [("k", None, [])])

    def test_members_come_first(self):
        self.check(2, [("l", [("a", 1), ("b", 1)], [], [])], [("k", None, [("a", 2)]), ("h", None, [("a", 2)])])

    def test_library_by_library(self):
        classes = [("k", None, [])]
        first, second = [("a", 1), ("b", 2)], [("c", 2), ("d", 1)]
        self.check(2, [("l", first, [], []), ("m", second, [], [])], classes)
        self.check(1, [("l", first, [], [("k", "a", 1)]), ("m", second, [], [])], classes)
        self.check(2, [("l", [("a", 1), ("b", 2), ("c", 2)], [], [("k", "a", 1)])], classes)

    def test_ahead_of_its_place(self):
        self.check(2, [("l", [("a", 1), ("b", 2), ("c", 2), ("d", 1)], [], [])])


class PlusTest(unittest.TestCase):
    def both(self, world, place, thing):
        addition = Addition(place, thing)
        self.assertTrue(world + addition == addition + world)
        self.assertIsInstance(addition + world, World)
        return world + addition

    def test_a_name(self):
        world = self.both(small(), ("name", "l", "aa"), 11)
        expect(self, {"b": 4, "a": 3, "aa": 11}, world.names_of("l"))
        expect(self, ("name", "l", "aa"), world[11])
        expect(self, 11, len(world))
        expect(self, small().names_of("m"), world.names_of("m"))
        expect(self, small().spreads_of("l"), world.spreads_of("l"))
        expect(self, {"a": 11}, self.both(small(), ("name", "n", "a"), 11).names_of("n"))

    def test_a_member(self):
        world = self.both(small(), ("member", "k", "a"), 11)
        expect(self, {"y": 2, "x": 1, "a": 11}, world.members_of("k"))
        expect(self, {"x": 10}, world.members_of("h"))
        expect(self, [None, "k", None], [world.elder_of(name) for name in world.class_names()])
        expect(self, ("member", "k", "a"), world[11])

    def test_a_spread(self):
        world = self.both(small(), ("spread", "l", "h", "a"), 11)
        expect(self, [("h", "c", 7), ("k", "c", 6), ("k", "b", 5), ("h", "a", 11)], world.spreads_of("l"))
        expect(self, [("k", "c", 9)], world.spreads_of("n"))
        expect(self, ("spread", "l", "h", "a"), world[11])
        expect(self, {"b": 4, "a": 3}, world.names_of("l"))

    def test_only_the_named_library_and_class_get_it(self):
        world = World([("a", [], [], []), ("b", [], [], [])], [("a", None, []), ("b", None, [])])
        expect(self, {}, (world + Addition(("name", "a", "b"), 1)).names_of("b"))
        expect(self, {}, (world + Addition(("name", "a", "b"), 1)).members_of("a"))
        expect(self, {}, (world + Addition(("member", "a", "b"), 1)).names_of("a"))
        expect(self, {}, (world + Addition(("member", "a", "b"), 1)).members_of("b"))
        expect(self, [], (world + Addition(("spread", "a", "b", "c"), 1)).spreads_of("b"))
        expect(self, {}, (world + Addition(("spread", "a", "b", "c"), 1)).names_of("a"))

    def test_all_else_stays(self):
        world = small()
        for place in [("name", "l", "aa"), ("member", "k", "a"), ("spread", "l", "h", "a")]:
            grown = world + Addition(place, 11)
            self.assertFalse(grown == world)
            self.assertTrue(world == small())
            expect(self, False, 11 in world)
            expect(self, 10, len(world))
            expect(self, world.library_names(), grown.library_names())
            expect(self, world.class_names(), grown.class_names())
            expect(self, [world.gives_of(name) for name in "lmn"], [grown.gives_of(name) for name in "lmn"])

    def test_a_name_that_it_gives_on_already(self):
        world = World([("l", [], ["m"], []), ("m", [("a", 1)], [], [])])
        expect(self, {"a": 2}, (world + Addition(("name", "l", "a"), 2)).names_of("l"))

    def check(self, name, value, place, thing):
        addition = Addition(place, thing)
        world = small()
        expect_error(self, name, value, lambda: world + addition)
        expect_error(self, name, value, lambda: addition + world)
        self.assertTrue(world == small())

    def test_unknown_names(self):
        self.check("UnknownName", "k", ("name", "k", "a"), 11)
        self.check("UnknownName", "l", ("member", "l", "a"), 11)
        self.check("UnknownName", "z", ("spread", "z", "k", "a"), 11)
        self.check("UnknownName", "y", ("spread", "l", "y", "a"), 11)
        self.check("UnknownName", "z", ("spread", "z", "y", "a"), 11)

    def test_already_there(self):
        for place in [("name", "l", "a"), ("member", "h", "x"), ("spread", "n", "k", "c")]:
            self.check("AlreadyThere", place, place, 11)

    def test_bad_thing(self):
        for thing in range(1, 11):
            self.check("BadThing", thing, ("name", "m", "c"), thing)
        self.check("BadThing", 1, ("member", "h", "z"), 1)
        self.check("BadThing", 1, ("spread", "n", "k", "z"), 1)

    def test_the_order_of_the_errors(self):
        self.check("UnknownName", "z", ("name", "z", "a"), 1)
        self.check("UnknownName", "y", ("spread", "l", "y", "a"), 1)
        for place in [("name", "l", "a"), ("member", "h", "x"), ("spread", "n", "k", "c")]:
            self.check("AlreadyThere", place, place, 1)

    def test_other_values_cannot_be_added(self):
        for value in [1, None, "a", ("name", "l", "aa"), small(), [], object()]:
            with self.assertRaises(TypeError):
                small() + value
            with self.assertRaises(TypeError):
                value + small()

    def test_several_additions(self):
        world = World([("l", [], [], [])])
        for thing in range(1, 151):
            name = "abcdefghij"[thing // 100] + "abcdefghij"[thing // 10 % 10] + "abcdefghij"[thing % 10]
            world = world + Addition(("name", "l", name), thing)
        expect(self, 150, len(world))
        expect(self, list(range(1, 151)), list(world.names_of("l").values()))


class EqualTest(unittest.TestCase):
    def check(self, answer, one, other):
        expect(self, answer, one == other)
        expect(self, answer, other == one)
        expect(self, not answer, one != other)

    def test_equal_worlds(self):
        self.check(True, small(), small())

    def test_names_spreads_and_members_in_any_order(self):
        classes = [("k", None, [("a", 1), ("b", 2)]), ("h", None, [])]
        one = World([("l", [("a", 3), ("b", 4)], [], [("k", "a", 5), ("h", "a", 6)])], classes)
        classes = [("k", None, [("b", 2), ("a", 1)]), ("h", None, [])]
        other = World([("l", [("b", 4), ("a", 3)], [], [("h", "a", 6), ("k", "a", 5)])], classes)
        self.check(True, one, other)

    def test_order_of_libraries(self):
        rows = [("l", [], [], []), ("m", [], [], [])]
        self.check(False, World(rows), World(rows[::-1]))

    def test_order_of_classes(self):
        rows = [("k", None, []), ("h", None, [])]
        self.check(False, World([], rows), World([], rows[::-1]))

    def test_order_of_libraries_that_are_given_on(self):
        others = [("m", [], [], []), ("n", [], [], [])]
        self.check(False, World([("l", [], ["m", "n"], []), *others]), World([("l", [], ["n", "m"], []), *others]))

    def test_each_part_counts(self):
        base = ([("l", [("a", 1)], [], [("k", "a", 2)]), ("m", [], [], [])], [("k", None, [("a", 3)]), ("h", None, [])])
        first, second = ("m", [], [], []), ("h", None, [])
        for libraries, classes in [
            ([("l", [("b", 1)], [], [("k", "a", 2)]), first], base[1]),
            ([("l", [("a", 4)], [], [("k", "a", 2)]), first], base[1]),
            ([("l", [], [], [("k", "a", 2)]), first], base[1]),
            ([("l", [("a", 1)], ["m"], [("k", "a", 2)]), first], base[1]),
            ([("l", [("a", 1)], [], [("h", "a", 2)]), first], base[1]),
            ([("l", [("a", 1)], [], [("k", "b", 2)]), first], base[1]),
            ([("l", [("a", 1)], [], [("k", "a", 4)]), first], base[1]),
            ([("l", [("a", 1)], [], []), first], base[1]),
            ([("n", [("a", 1)], [], [("k", "a", 2)]), first], base[1]),
            (base[0][:1], base[1]),
            (base[0], base[1][:1]),
            (base[0], [("k", None, [("b", 3)]), second]),
            (base[0], [("k", None, [("a", 4)]), second]),
            (base[0], [("k", None, []), second]),
            (base[0], [("k", None, [("a", 3)]), ("h", "k", [])]),
            (base[0], [("k", None, [("a", 3)]), ("o", None, [])]),
        ]:
            self.check(False, World(*base), World(libraries, classes))

    def test_values_of_other_classes(self):
        for value in [*STRANGE, Greedy(), 1, "world"]:
            self.assertIs(World() == value, False)
            self.assertIs(World() != value, True)


class ExampleTest(unittest.TestCase):
    def test_the_example_of_the_document(self):
        world = World([("l", [("a", 1)], ["m"], []), ("m", [("b", 2)], ["l"], [])])
        told = [world.library_names(), len(world), world[2], 3 in world]
        expect(self, [["l", "m"], 2, ("name", "m", "b"), False], told)
        expect(self, {"a": 1, "b": 3}, (world + Addition(("name", "l", "b"), 3)).names_of("l"))
        addition = Addition(("name", "m", "b"), 3)
        expect_error(self, "AlreadyThere", ("name", "m", "b"), lambda: world + addition)


if __name__ == "__main__":
    unittest.main()
