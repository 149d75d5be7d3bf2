import random
import unittest
from itertools import combinations, permutations
from unittest.mock import patch

from addednames import orders
from addednames.additions import Addition
from addednames.books import Book
from addednames.callers import Caller
from addednames.effects import behind, effect, places_for, touched_uses
from addednames.orders import calm_order, effect_of, showing, steps, touchers
from addednames.problems import is_right
from addednames.several import Several
from addednames.views import View
from addednames.worlds import World
from chance import all_additions, right_views
from support import expect, expect_error

FIRST, SECOND = Addition(("name", "n", "a"), 2), Addition(("name", "l", "a"), 3)
FRESH = [Addition(("name", "l", name), 10 + index) for index, name in enumerate("qrstuvwxyz")]
CALLS = (effect_of, showing, touchers, calm_order)


def world():
    return World([("l", [], ["m", "n"], []), ("m", [("a", 1)], [], []), ("n", [], [], [])])


def view(book=None, imports=(("named", "l", "a", "a"),), uses=()):
    return View(Caller(world(), imports, uses=uses), Book() if book is None else book)


def draw_severals(many, seed, **fixed):
    """Tuples (view, several) of right callers, with additions at names that the callers use."""
    draw = random.Random(seed)
    found = []
    for one in right_views(many, seed, **fixed):
        rows = all_additions(one, "abc")
        # Additions that touch and that do not come about equally often.
        touching = [row for row in rows if effect(one, row) != "stays"]
        chosen = draw.sample(rows, min(len(rows), 3)) + draw.sample(touching, min(len(touching), 3))
        places = list(dict.fromkeys(row.place for row in chosen))
        draw.shuffle(places)
        found.append((one, Several(*[Addition(place, 1000 + at) for at, place in enumerate(places[:5])])))
    return found


class EffectOfTest(unittest.TestCase):
    def test_effects(self):
        one = view(uses=[("name", None, "a")])
        for rows, word in [
            ([], "stays"),
            ([FRESH[0], FRESH[1]], "stays"),
            ([FIRST], "breaks"),
            ([SECOND], "changes"),
            ([FIRST, SECOND], "changes"),
            ([SECOND, FIRST, FRESH[0]], "changes"),
        ]:
            expect(self, word, effect_of(one, Several(*rows)))
            expect(self, word, effect_of(several=Several(*rows), view=one))

    def test_the_order_does_not_count(self):
        for one, several in draw_severals(40, 61):
            word = effect_of(one, several)
            for rows in permutations(several.additions):
                expect(self, word, effect_of(one, Several(*rows)))
                expect(self, word, effect(one, *rows))
                self.assertTrue(behind(one, *rows) == behind(one, *several.additions))


class ShowingTest(unittest.TestCase):
    def check(self, wanted, one, *rows):
        for found in [showing(one, Several(*rows)), showing(several=Several(*rows), view=one)]:
            if wanted is None:
                expect(self, None, found)
            else:
                self.assertIsInstance(found, Several)
                self.assertTrue(list(found.additions) == wanted)

    def test_the_first_one(self):
        one = view(uses=[("name", None, "a")])
        self.check(None, one)
        self.check(None, one, *FRESH[:3])
        self.check([FIRST], one, FRESH[0], FIRST, SECOND)
        self.check([SECOND], one, FRESH[0], SECOND, FIRST)
        # Behind both, all stays, but the first one alone touches.
        expect(self, "stays", effect_of(view(), Several(FIRST, SECOND)))
        self.check([FIRST], view(), FIRST, SECOND)
        self.check([FIRST], view(), SECOND, FIRST)

    def test_two_together(self):
        once = view(Book(alls="once"), [("all", "l")])
        rows = [Addition(("name", x, n), 10 + at) for at, (x, n) in enumerate(["lz", "mz", "ny", "nz", "my"])]
        self.check([rows[1], rows[3]], once, *rows[1:])
        self.check([rows[2], rows[4]], once, *[rows[at] for at in (0, 2, 4, 3)])
        self.check([rows[3], rows[1]], once, *[rows[at] for at in (3, 4, 1)])
        self.check([rows[1], rows[3]], once, rows[0], rows[1], rows[3])
        expect(self, "stays", effect_of(once, Several(rows[0], rows[1], rows[3])))
        self.check(None, once, rows[0], rows[1], rows[2])
        self.check(None, view(Book(), [("all", "l")]), *rows)

    def test_views_at_random(self):
        twos = 0
        fixed = [{"book": Book(alls="once", given=given)} for given in ("own", "both")]
        rows = draw_severals(120, 62)
        for parts in fixed:
            rows += draw_severals(60, 63, **parts)
        for one, several in rows:
            sets = [[row] for row in several.additions] + [list(row) for row in combinations(several.additions, 2)]
            wanted = [row for row in sets if effect(one, *row) != "stays"]
            self.check(wanted[0] if wanted else None, one, *several.additions)
            if effect_of(one, several) != "stays":
                self.assertTrue(wanted)
            twos += wanted != [] and len(wanted[0]) == 2
        self.assertGreater(twos, 0)


class TouchersTest(unittest.TestCase):
    def test_each_use(self):
        imports = [("named", "l", "a", "a"), ("all", "m")]
        one = view(imports=imports, uses=[("name", None, "a"), ("name", None, "a")])
        expect(self, {0: [SECOND, FIRST], 1: [SECOND, FIRST]}, touchers(one, Several(SECOND, FRESH[0], FIRST)))
        expect(self, {0: [FIRST], 1: [FIRST]}, touchers(several=Several(FRESH[0], FIRST), view=one))
        expect(self, {}, touchers(one, Several(*FRESH[:4])))
        expect(self, {}, touchers(one, Several()))
        expect(self, {}, touchers(view(), Several(FIRST)))

    def test_views_at_random(self):
        many = 0
        for one, several in draw_severals(250, 64):
            found = touchers(one, several)
            self.assertIs(type(found), dict)
            expect(self, touched_uses(one, *several.additions), list(found))
            for index, rows in found.items():
                alone = [row for row in several.additions if index in touched_uses(one, row)]
                self.assertTrue(rows == alone)
                self.assertIs(type(rows), list)
                self.assertNotEqual(rows, [])
                many += 1
            for index in range(len(one.caller)):
                alone = [row for row in several.additions if index in touched_uses(one, row)]
                self.assertEqual(index in found, alone != [])
            found.clear()
            self.assertEqual(list(touchers(one, several)), touched_uses(one, *several.additions))
        self.assertGreater(many, 50)


class StepsTest(unittest.TestCase):
    def test_effects(self):
        one = view(uses=[("name", None, "a")])
        for rows, words in [
            ([], []),
            ([FIRST], ["breaks"]),
            ([FIRST, SECOND], ["breaks", "changes"]),
            ([SECOND, FIRST], ["changes", "changes"]),
            ((FRESH[0], FIRST, FRESH[1], SECOND), ["stays", "breaks", "breaks", "changes"]),
        ]:
            expect(self, words, list(steps(one, rows)))
            expect(self, words, list(steps(additions=rows, view=one)))

    def test_views_at_random(self):
        for one, several in draw_severals(60, 65):
            rows = list(several.additions)
            wanted = [effect(one, *rows[:many]) for many in range(1, len(rows) + 1)]
            expect(self, wanted, list(steps(one, rows)))

    def test_a_generator(self):
        rows = []
        words = steps(view(), rows)
        rows.extend([FIRST, SECOND])
        expect(self, "breaks", next(words))
        rows.clear()
        expect(self, ["stays"], list(words))

    def test_errors_at_the_first_item(self):
        unknown, there = Addition(("name", "z", "a"), 9), Addition(("name", "m", "a"), 9)
        wrong = view(uses=[("name", None, "z")])
        for rows, name, value in [
            ([FIRST, unknown], "UnknownName", "z"),
            ([FIRST, SECOND, there, unknown], "AlreadyThere", ("name", "m", "a")),
            ([FIRST, FIRST], "AlreadyThere", ("name", "n", "a")),
            ([FIRST, Addition(("name", "l", "b"), 1)], "BadThing", 1),
        ]:
            words = steps(view(), rows)
            expect_error(self, name, value, next, words)
            words = steps(wrong, rows)
            expect_error(self, "NotRight", [("use", 0)], next, words)
        expect_error(self, "NotRight", [("use", 0)], next, steps(wrong, []))
        expect_error(self, "NotRight", [("use", 0)], next, steps(wrong, [Addition(("name", "l", "z"), 9)]))


class CalmOrderTest(unittest.TestCase):
    def check(self, wanted, one, *rows):
        for found in [calm_order(one, Several(*rows)), calm_order(several=Several(*rows), view=one)]:
            if wanted is None:
                expect(self, None, found)
            else:
                self.assertIs(type(found), list)
                self.assertTrue(found == wanted, [row.place for row in found])

    def test_orders(self):
        self.check([], view())
        self.check([SECOND, FIRST], view(), FIRST, SECOND)
        self.check([SECOND, FIRST], view(), SECOND, FIRST)
        self.check(None, view(), FIRST)
        self.check(None, view(), FIRST, FRESH[0])
        self.check([FRESH[0], SECOND, FIRST], view(), FRESH[0], FIRST, SECOND)
        self.check([FRESH[0], SECOND, FIRST, FRESH[1]], view(), FIRST, FRESH[0], SECOND, FRESH[1])

    def test_eight_and_nine(self):
        rows = [FIRST, *FRESH[:6]]
        self.check([*FRESH[:6], SECOND, FIRST], view(), *rows, SECOND)
        self.check(None, view(), *rows, FRESH[6])
        self.check(FRESH[:8], view(), *FRESH[:8])
        expect_error(self, "TooMany", 8, calm_order, view(), Several(*FRESH[:9]))
        expect_error(self, "TooMany", 8, calm_order, view(), Several(*FRESH))

    def test_too_many_behind_not_right_and_ahead_of_other_errors(self):
        unknown = Addition(("name", "z", "a"), 9)
        wrong = view(uses=[("name", None, "z")])
        for rows in [[], [unknown], [unknown, *FRESH]]:
            expect_error(self, "NotRight", [("use", 0)], calm_order, wrong, Several(*rows))
        expect_error(self, "TooMany", 8, calm_order, view(), Several(unknown, *FRESH[:8]))
        expect_error(self, "UnknownName", "z", calm_order, view(), Several(*FRESH[:7], unknown))

    def test_views_at_random(self):
        kinds = {"none": 0, "first": 0, "other": 0}
        rows = draw_severals(150, 66)
        for given in ("own", "both"):
            rows += draw_severals(50, 67, book=Book(given=given, order="own=named=all"))
        for one, several in rows:
            additions = list(several.additions)
            wanted = self.by_trying(one, additions)
            self.check(wanted, one, *additions)
            kinds["none" if wanted is None else "first" if wanted == additions else "other"] += 1
        self.assertGreater(kinds["none"], 10)
        self.assertGreater(kinds["first"], 10)
        self.assertGreater(kinds["other"], 0)

    def by_trying(self, one, additions):
        told = {}
        for order in permutations(range(len(additions))):
            for many in range(len(order) + 1):
                key = frozenset(order[:many])
                if key not in told:
                    told[key] = is_right(behind(one, *[additions[at] for at in order[:many]]))
            if all(told[frozenset(order[:many])] for many in range(len(order) + 1)):
                return [additions[at] for at in order]
        return None


class ManyAdditionsTest(unittest.TestCase):
    """Up to eight additions, and how many sets of them are looked at."""

    def check(self, wanted, one, rows):
        """The answer is the wanted one; the number of sets of additions that were looked at."""
        with patch.object(orders, "is_right", side_effect=is_right) as asked:
            found = calm_order(one, Several(*rows))
        if wanted is None:
            expect(self, None, found)
        else:
            self.assertIs(type(found), list)
            self.assertTrue(found == wanted, found and [row.place for row in found])
        return asked.call_count

    def test_names_that_nothing_uses(self):
        one = View(Caller(World([("z", [], [], [])]), [("all", "z")]), Book(alls="once"))
        rows = [Addition(("name", "z", name), index + 1) for index, name in enumerate("abcdefgh")]
        for many in range(9):
            # Not each set of additions is looked at, only those on the way.
            self.assertLessEqual(self.check(rows[:many], one, rows[:many]), 8)
            self.check(rows[:many][::-1], one, rows[:many][::-1])

    def test_one_that_is_made_right_by_another_one(self):
        for many in range(7):
            fresh = FRESH[:many]
            for at in range(many + 1):
                rows = [*fresh[:at], FIRST, *fresh[at:]]
                self.check([*fresh, SECOND, FIRST], view(), [*rows, SECOND])
                self.check([*fresh[:at], SECOND, FIRST, *fresh[at:]], view(), [*fresh[:at], SECOND, FIRST, *fresh[at:]])
                self.check([SECOND, *rows], view(), [SECOND, *rows])
                self.assertLessEqual(self.check(None, view(), rows), 1)

    def test_two_that_are_each_made_right_by_the_other_one(self):
        # From l, all ways to x lead through y; from m, all ways to y lead through x; both reach the holder o.
        rows = [("l", ["p"]), ("m", ["q"]), ("p", ["y"]), ("q", ["x"]), ("x", ["y", "o"]), ("y", ["x", "o"]), ("o", [])]
        libraries = [(name, [("a", 1)] if name == "o" else [], gives, []) for name, gives in rows]
        one = View(Caller(World(libraries), [("named", "l", "a", "a"), ("named", "m", "a", "b")]), Book())
        first, second = Addition(("name", "x", "a"), 2), Addition(("name", "y", "a"), 3)
        words = [effect_of(one, Several(*additions)) for additions in [(first,), (second,), (first, second)]]
        expect(self, ["breaks", "breaks", "stays"], words)
        for many in range(7):
            self.check(None, one, [first, *FRESH[:many], second])
            self.check(None, one, [*FRESH[:many], second, first])

    def test_views_at_random(self):
        draw, told = random.Random(68), {}
        for one in right_views(250, 69, book=Book(order="own=named=all", alls="once")):
            places = [place for place in places_for(one.caller.world, ["a"]) if place[0] == "name"]
            chosen = [*places, *list(places_for(one.caller.world, "cde"))][:8]
            draw.shuffle(chosen)
            rows = [Addition(place, 1000 + at) for at, place in enumerate(chosen)]
            # The order in which they stand is the first one of all.
            calm = all(is_right(behind(one, *rows[:many])) for many in range(len(rows)))
            wanted = rows if calm and is_right(behind(one, *rows)) else self.by_sets(one, rows)
            self.check(wanted, one, rows)
            kind = "none" if wanted is None else "first" if wanted == rows else "other"
            told[kind, len(rows)] = told.get((kind, len(rows)), 0) + 1
        self.assertGreater(min(told.get((kind, 8), 0) for kind in ("none", "first", "other")), 3, told)

    def by_sets(self, one, rows):
        """The first calm order, found by looking at all sets, from larger ones to smaller ones."""
        every = frozenset(range(len(rows)))
        rests = {}
        for many in range(len(rows), -1, -1):
            for chosen in map(frozenset, combinations(sorted(every), many)):
                if is_right(behind(one, *[rows[at] for at in sorted(chosen)])):
                    longer = [[at, *rests[chosen | {at}]] for at in every - chosen if chosen | {at} in rests]
                    if chosen == every or longer:
                        rests[chosen] = min(longer, default=[])
        return [rows[at] for at in rests[frozenset()]] if frozenset() in rests else None


class ErrorsTest(unittest.TestCase):
    def test_additions_that_cannot_be_made(self):
        wrong = view(uses=[("name", None, "z")])
        for row, name, value in [
            (Addition(("name", "z", "a"), 9), "UnknownName", "z"),
            (Addition(("member", "k", "a"), 9), "UnknownName", "k"),
            (Addition(("name", "m", "a"), 9), "AlreadyThere", ("name", "m", "a")),
            (Addition(("name", "n", "b"), 1), "BadThing", 1),
        ]:
            for call in CALLS:
                for rows in [[row], [FIRST, SECOND, row], [FIRST, row, SECOND], [FRESH[0], row]]:
                    expect_error(self, name, value, call, view(), Several(*rows))
                    expect_error(self, "NotRight", [("use", 0)], call, wrong, Several(*rows))

    def test_not_right(self):
        for call in CALLS:
            for rows in [[], [FIRST], [Addition(("name", "l", "z"), 9)]]:
                wrong = view(uses=[("name", None, "a"), ("name", None, "z")])
                expect_error(self, "NotRight", [("use", 1)], call, wrong, Several(*rows))


class NothingChangesTest(unittest.TestCase):
    def test_views_and_additions(self):
        one, both, rows = view(), Several(FIRST, SECOND), [FIRST, SECOND]
        for call in CALLS:
            call(one, both)
        list(steps(one, rows))
        calm_order(one, both).clear()
        self.assertTrue(calm_order(one, both) == [SECOND, FIRST])
        self.assertTrue(one == view())
        self.assertTrue(both.additions == (FIRST, SECOND))
        self.assertTrue(rows == [FIRST, SECOND])


class ExampleTest(unittest.TestCase):
    def test_the_example_of_the_document(self):
        one, both = view(), FIRST | Several(SECOND)
        told = [list(steps(one, [FIRST, SECOND])), effect_of(one, both), calm_order(one, both) == [SECOND, FIRST]]
        expect(self, [["breaks", "stays"], "stays", True], told)
        told = [showing(one, both) == Several(FIRST), FIRST in both, both[("name", "l", "a")] == SECOND]
        expect(self, [True, True, True, True], [*told, both - SECOND <= both])


if __name__ == "__main__":
    unittest.main()
