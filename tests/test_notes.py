import unittest

from addednames.notes import Notes
from support import STRANGE, Greedy, Touchy, expect, expect_error

ANY = (*STRANGE, Greedy(), Touchy())
PLACE, OTHER = ("name", "l", "a"), ("spread", "l", "k", "a")
NO_PLACES = (*ANY, "a", list(PLACE), PLACE[:2], (*PLACE, "b"), ("name", "l", "A"), ("named", "l", "a"), ("member", "k", 1))


class NotesTest(unittest.TestCase):
    def put(self, notes, name, place):
        notes[name] = place

    def test_places(self):
        notes = Notes()
        expect(self, [0, [], False], [len(notes), notes.listed(), "a" in notes])
        notes["b"] = PLACE
        notes["a"] = OTHER
        notes["abcdefgh"] = PLACE
        expect(self, [PLACE, OTHER, PLACE], [notes["b"], notes["a"], notes["abcdefgh"]])
        expect(self, [True, True, False], ["a" in notes, "abcdefgh" in notes, "c" in notes])
        expect(self, 3, len(notes))
        expect(self, [("a", OTHER), ("abcdefgh", PLACE), ("b", PLACE)], notes.listed())

    def test_the_last_place_counts(self):
        notes = Notes()
        for place in [PLACE, OTHER, ("member", "k", "b"), PLACE, ("member", "k", "b")]:
            notes["b"] = place
            expect(self, place, notes["b"])
            expect(self, 1, len(notes))
        notes["a"] = PLACE
        expect(self, [("a", PLACE), ("b", ("member", "k", "b"))], notes.listed())

    def test_bad_names_ahead_of_bad_places(self):
        notes = Notes()
        notes["a"] = PLACE
        for value in ANY:
            for place in [PLACE, *NO_PLACES]:
                expect_error(self, "BadName", value, self.put, notes, value, place)
            expect_error(self, "BadName", value, lambda: notes[value])
            expect(self, False, value in notes)
        for place in NO_PLACES:
            for name in ("a", "b"):
                expect_error(self, "BadPlace", place, self.put, notes, name, place)
        expect_error(self, "BadName", "b", lambda: notes["b"])
        expect(self, [("a", PLACE)], notes.listed())

    def test_a_new_list_each_time(self):
        notes = Notes()
        notes["a"] = PLACE
        notes.listed().clear()
        notes.listed().append(("b", OTHER))
        expect(self, [("a", PLACE)], notes.listed())

    def test_no_iteration(self):
        notes = Notes()
        for _ in range(2):
            for call in (list, tuple, iter, sorted):
                with self.assertRaises(TypeError):
                    call(notes)
            notes["a"] = PLACE

    def test_two_of_them(self):
        one, other = Notes(), Notes()
        one["a"] = PLACE
        expect(self, [1, 0, False], [len(one), len(other), "a" in other])


if __name__ == "__main__":
    unittest.main()
