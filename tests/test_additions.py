import unittest

from addednames.additions import Addition
from support import STRANGE, Greedy, Touchy, expect, expect_error

PLACES = (("name", "l", "a"), ("member", "k", "b"), ("spread", "l", "k", "c"), ("name", "abcdefgh", "zzzzzzzz"))


class AdditionTest(unittest.TestCase):
    def test_attributes_of_each_kind(self):
        for place, thing in [(PLACES[0], 1), (PLACES[1], 2), (PLACES[2], 1000000000), (PLACES[3], 7)]:
            addition = Addition(place, thing)
            expect(self, place, addition.place)
            expect(self, thing, addition.thing)
            expect(self, place[0], addition.kind)
            expect(self, place[-1], addition.name)

    def test_by_name(self):
        self.assertEqual(Addition(thing=3, place=PLACES[2]), Addition(PLACES[2], 3))

    def test_equal_if_place_and_thing_are(self):
        for place in PLACES:
            self.assertTrue(Addition(place, 1) == Addition(tuple(list(place)), 1))
            self.assertFalse(Addition(place, 1) != Addition(place, 1))
            self.assertFalse(Addition(place, 1) == Addition(place, 2))
        self.assertFalse(Addition(("name", "l", "a"), 1) == Addition(("name", "l", "b"), 1))
        self.assertFalse(Addition(("name", "l", "a"), 1) == Addition(("name", "m", "a"), 1))
        self.assertFalse(Addition(("name", "l", "a"), 1) == Addition(("member", "l", "a"), 1))

    def test_values_of_other_classes_are_not_equal(self):
        addition = Addition(PLACES[0], 1)
        for value in [*STRANGE, Greedy(), (PLACES[0], 1), PLACES[0], 1]:
            self.assertIs(addition == value, False)
            self.assertIs(addition != value, True)

    def test_places_of_a_wrong_form(self):
        for place in [
            ["name", "l", "a"],
            ("names", "l", "a"),
            ("Name", "l", "a"),
            ("", "l", "a"),
            ("whole", "l", "a"),
            ("name",),
            ("name", "l"),
            ("name", "l", "a", "b"),
            ("member", "k"),
            ("member", "k", "a", "b"),
            ("spread", "l", "k"),
            ("spread", "l", "k", "a", "b"),
            ("spreads", "l", "k", "a"),
            ("whole", "l", "k", "a"),
            ("", "l", "k", "a"),
            (None, "l", "k", "a"),
            (Greedy(), "l", "k", "a"),
            (Touchy(), "l", "k", "a"),
            (["name"], "l", "a"),
            (None, "l", "a"),
            (Greedy(), "l", "a"),
            (Touchy(), "l", "a"),
            ("name", ("l", "a")),
            "name",
            "nla",
        ]:
            expect_error(self, "BadPlace", place, Addition, place, 1)

    def test_parts_that_are_no_names(self):
        for value in [*STRANGE, 1, Greedy(), Touchy()]:
            for place in PLACES:
                for index in range(1, len(place)):
                    wrong = (*place[:index], value, *place[index + 1:])
                    expect_error(self, "BadPlace", wrong, Addition, wrong, 1)

    def test_any_value_as_a_place(self):
        for value in [*STRANGE, 1, Greedy(), Touchy()]:
            expect_error(self, "BadPlace", value, Addition, value, 1)

    def test_bad_things(self):
        for value in [*STRANGE, 1000000001, "1", [1], (1,), Greedy(), Touchy()]:
            for place in PLACES:
                expect_error(self, "BadThing", value, Addition, place, value)

    def test_bad_place_is_ahead_of_bad_thing(self):
        expect_error(self, "BadPlace", ("name", "l"), Addition, ("name", "l"), 0)
        expect_error(self, "BadPlace", None, Addition, None, None)


if __name__ == "__main__":
    unittest.main()
