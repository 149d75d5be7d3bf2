import unittest
from itertools import permutations, product

from addednames.additions import Addition
from addednames.several import Several
from support import STRANGE, Greedy, Touchy, expect, expect_error

A = Addition(("name", "l", "a"), 1)
B = Addition(("member", "k", "b"), 2)
C = Addition(("spread", "l", "k", "c"), 3)
D = Addition(("name", "m", "a"), 4)
ROWS = (A, B, C, D)
ANY = (*STRANGE, Greedy(), Touchy(), ("name", "l", "a"), 1, "a", [A], (A,))


def fresh(addition):
    """An equal addition that is another object."""
    return Addition(addition.place, addition.thing)


def sets():
    """All Severals of the four additions, each in one order."""
    return [Several(*[row for row, chosen in zip(ROWS, bits) if chosen]) for bits in product((0, 1), repeat=4)]


class SeveralTest(unittest.TestCase):
    def check(self, wanted, several):
        self.assertIsInstance(several, Several)
        self.assertIsInstance(several.additions, tuple)
        self.assertEqual([row.place for row in wanted], [row.place for row in several.additions])
        self.assertTrue(list(wanted) == list(several.additions))

    def test_in_the_order_in_which_they_come_first(self):
        self.check([], Several())
        for rows in permutations(ROWS):
            self.check(rows, Several(*rows))
        self.check([B, A], Several(B, A, fresh(B), A, B))
        self.check([A], Several(A, A, fresh(A)))

    def test_no_additions(self):
        for value in [*ANY, Several(), Several(A)]:
            expect_error(self, "BadAddition", value, Several, value)
            expect_error(self, "BadAddition", value, Several, A, value, None)
            expect_error(self, "BadAddition", value, Several, A, A, Addition(A.place, 9), value)

    def test_places_and_things_that_come_twice(self):
        place, thing, both = Addition(A.place, 9), Addition(("name", "n", "z"), 1), Addition(A.place, 2)
        expect_error(self, "AlreadyThere", A.place, Several, A, place)
        expect_error(self, "AlreadyThere", A.place, Several, B, A, C, place, thing)
        expect_error(self, "AlreadyThere", A.place, Several, place, A)
        expect_error(self, "BadThing", 1, Several, A, thing)
        expect_error(self, "BadThing", 1, Several, thing, B, A, place)
        expect_error(self, "BadThing", 1, Several, A, B, thing, place)
        expect_error(self, "AlreadyThere", A.place, Several, A, B, both)
        expect_error(self, "AlreadyThere", A.place, Several, B, A, both)
        expect_error(self, "BadThing", 2, Several, both, B, A)
        self.check([A, D], Several(A, D, A))

    def test_length_and_values(self):
        for several in sets():
            rows = several.additions
            expect(self, len(rows), len(several))
            for row in ROWS:
                expect(self, row in rows, row in several)
                expect(self, row in rows, fresh(row) in several)
            for value in [*ANY, several, Addition(A.place, 9), Addition(("name", "n", "z"), 1)]:
                expect(self, False, value in several)
        expect(self, [0, 1, 2], [len(Several()), len(Several(A, A)), len(Several(A, B, A))])

    def test_by_place(self):
        several = Several(*ROWS)
        for row in ROWS:
            self.assertIs(several[row.place], row)
        wrong = [A, ("name", "l", "b"), ("name", "k", "b"), ("member", "l", "a"), ("name", "l"), ["name", "l", "a"], 0, 1]
        for value in [*STRANGE, Greedy(), Touchy(), *wrong, ("spread", "l", "c"), slice(0, 1)]:
            expect_error(self, "BadPlace", value, lambda: several[value])
            expect_error(self, "BadPlace", value, lambda: Several()[value])
        expect_error(self, "BadPlace", A.place, lambda: Several(B)[A.place])

    def test_no_iteration(self):
        for several in [Several(), Several(A, B)]:
            for call in [iter, list, tuple, set, sorted, sum, lambda x: [*x], lambda x: Several(*x)]:
                with self.assertRaises(TypeError):
                    call(several)

    def test_additions_cannot_be_set(self):
        with self.assertRaises(AttributeError):
            Several(A).additions = ()


class OperatorsTest(unittest.TestCase):
    check = SeveralTest.check

    def test_sets(self):
        for one, other in product(sets(), sets()):
            first, second = one.additions, other.additions
            self.check([*first, *[row for row in second if row not in first]], one | other)
            self.check([row for row in first if row in second], one & other)
            self.check([row for row in first if row not in second], one - other)
            self.check(first, one)
            self.check(second, other)

    def test_orders(self):
        one, other = Several(D, A, C), Several(fresh(C), B, fresh(D))
        self.check([D, A, C, B], one | other)
        self.check([C, B, D, A], other | one)
        self.check([D, C], one & other)
        self.check([C, D], other & one)
        self.check([A], one - other)
        self.check([B], other - one)

    def test_single_additions(self):
        one = Several(B, A)
        self.check([B, A, C], one | C)
        self.check([C, B, A], C | one)
        self.check([B, A], one | fresh(A))
        self.check([A, B], fresh(A) | one)
        self.check([A], one & fresh(A))
        self.check([A], fresh(A) & one)
        self.check([], one & C)
        self.check([], C & one)
        self.check([B], one - fresh(A))
        self.check([], fresh(A) - one)
        self.check([B, A], one - C)
        self.check([C], C - one)
        self.check([A], A | Several())
        self.check([A], Several() | A)
        self.check([A], A - Several())
        self.check([], Several() - A)
        self.check([], A & Several())

    def test_errors(self):
        place, thing = Addition(A.place, 9), Addition(("name", "n", "z"), 1)
        for one, other, name, value in [
            (Several(B, A), Several(C, place), "AlreadyThere", A.place),
            (Several(B, A), place, "AlreadyThere", A.place),
            (place, Several(B, A), "AlreadyThere", A.place),
            (Several(B, A), Several(C, thing), "BadThing", 1),
            (Several(B, A), thing, "BadThing", 1),
            (thing, Several(B, A), "BadThing", 1),
            (Several(A, B), Several(Addition(A.place, 2)), "AlreadyThere", A.place),
            (Several(A), Several(thing, place), "BadThing", 1),
            (Several(A), Several(place, thing), "AlreadyThere", A.place),
        ]:
            expect_error(self, name, value, lambda: one | other)
            self.assertIsInstance(one & other, Several)
            self.assertIsInstance(one - other, Several)
        self.check([], Several(A) & place)
        self.check([A], Several(A) - place)
        self.check([place], place - Several(A))

    def test_other_values(self):
        for value in [None, 1, "a", (A,), [A], {A.place: A}, object(), A.place]:
            for call in [
                lambda: Several(A) | value,
                lambda: Several(A) & value,
                lambda: Several(A) - value,
                lambda: value | Several(A),
                lambda: value & Several(A),
                lambda: value - Several(A),
                lambda: Several(A) <= value,
                lambda: Several(A) < value,
                lambda: Several(A) >= value,
                lambda: Several(A) > value,
            ]:
                with self.assertRaises(TypeError):
                    call()


class CompareTest(unittest.TestCase):
    def test_all_pairs(self):
        for one, other in product(sets(), sets()):
            first = {row.place for row in one.additions}
            second = {row.place for row in other.additions}
            expect(self, first <= second, one <= other)
            expect(self, first < second, one < other)
            expect(self, first >= second, one >= other)
            expect(self, first > second, one > other)
            expect(self, first == second, one == other)
            expect(self, first != second, one != other)

    def test_any_order(self):
        for rows in permutations(ROWS):
            again = [fresh(row) for row in rows]
            expect(self, True, Several(*again) == Several(*ROWS))
            expect(self, False, Several(*again) != Several(*ROWS))
            expect(self, True, Several(*again) <= Several(*ROWS))
            expect(self, True, Several(*again) >= Several(*ROWS))
            expect(self, False, Several(*again) < Several(*ROWS))
            expect(self, False, Several(*again) > Several(*ROWS))
            expect(self, True, Several(*again[:3]) < Several(*ROWS))

    def test_places_and_things_count(self):
        for other in [Addition(A.place, 9), Addition(("name", "l", "b"), 1)]:
            for told in [Several(A) == Several(other), Several(A) <= Several(other), Several(A, B) > Several(other)]:
                expect(self, False, told)

    def test_values_of_other_classes(self):
        for value in [*ANY, A, (A,), [A]]:
            self.assertIs(Several(A) == value, False)
            self.assertIs(Several(A) != value, True)
        self.assertIs(Several() == (), False)


if __name__ == "__main__":
    unittest.main()
