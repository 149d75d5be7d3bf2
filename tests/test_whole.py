"""The whole program over many callers and books: its parts answer alike, and the guarantees of the document hold."""

import random
import unittest

import model
from addednames.additions import Addition
from addednames.books import Book
from addednames.callers import Caller
from addednames.cases import can
from addednames.checker import accepts
from addednames.console import Console
from addednames.effects import behind, effect, new_thing, places_for, touched_uses
from addednames.errors import NotRight
from addednames.given import given_names, gives
from addednames.moves import flaw, least_moves, moved, moves
from addednames.orders import calm_order, effect_of, showing, steps, touchers
from addednames.papers import demands, is_safe, paper
from addednames.problems import is_right, problems
from addednames.reasons import is_part, reason
from addednames.sessions import Session
from addednames.several import Several
from addednames.texts import read, write, write_place
from addednames.touching import fresh_name, risk_ways, risks, touching, touching_names
from addednames.verdicts import Verdicts
from addednames.views import View
from addednames.worlds import World
from chance import Things, all_additions, draw_book, draw_growing, draw_world, right_views, views
from papers_model import demanded, grower, meeting_rows
from support import expect

ONCES = [Book(alls="once", given=given, marks=marks) for given in ("own", "both") for marks in (True, False)]


def right_ones(many, seed):
    """Right callers under all kinds of books, and some more for which names clash at once."""
    rows = right_views(many, seed)
    for number, book in enumerate(ONCES):
        rows += right_views(many // 8, seed + 1 + number, book=book)
    return rows


class AlikeTest(unittest.TestCase):
    def test_results_and_problems(self):
        for one in views(250, 141):
            expect(self, [model.finds(one, use) for use in one.caller.uses], one.results())
            expect(self, model.wrongs(one), problems(one))
            expect(self, problems(one) == [], is_right(one))
            later = read(write(one))
            expect(self, one.results(), later.results())
            expect(self, problems(one), problems(later))
            if not is_right(one):
                expect(self, False, is_safe(one))
                expect(self, False, accepts(one, ("safe", ())))
                for call in (touching, risks, demands, paper, moves, least_moves):
                    with self.assertRaises(NotRight) as caught:
                        call(one)
                    expect(self, problems(one), caught.exception.problems)

    def test_what_touches_safety_and_papers(self):
        draw, told = random.Random(142), set()
        for one in right_ones(200, 143):
            grown = draw.choice(({}, draw_growing(draw, one.caller.world)))
            touched, pairs, value = touching(one, **grown), risks(one, **grown), paper(one, **grown)
            safe = is_safe(one, **grown)
            expect(self, touched == [] and pairs == [], safe)
            expect(self, "safe" if safe else "touched", value[0])
            expect(self, True, accepts(one, value, **grown))
            expect(self, sorted({place[-1] for place, _ in touched}), touching_names(one, **grown))
            for place, word in touched:
                expect(self, word, effect(one, Addition(place, new_thing(one.caller))))
                expect(self, True, accepts(one, ("touched", word, (place,)), **grown))
            for pair in pairs:
                self.assertIsNotNone(risk_ways(one, *pair))
                places = tuple(("name", library, fresh_name(one.caller)) for library in pair)
                expect(self, True, accepts(one, ("touched", "breaks", places), **grown))
            flaws = [("touched", *row) for row in touched] + [("risk", *pair) for pair in pairs] + [None]
            expect(self, flaws[0], flaw(one, [], **grown))
            told.add((safe, touched == [], pairs == []))
        self.assertEqual(told, {(True, True, True), (False, True, False), (False, False, True), (False, False, False)})

    def test_effects_and_several_additions(self):
        draw = random.Random(144)
        for one in right_ones(100, 145):
            rows = all_additions(one, "ab")
            chosen = [Addition(row.place, 2000 + at) for at, row in enumerate(draw.sample(rows, min(len(rows), 4)))]
            several = Several(*chosen)
            word = effect_of(one, several)
            expect(self, word, effect(one, *chosen))
            uses = touched_uses(one, *chosen)
            expect(self, uses, list(touchers(one, several)))
            expect(self, word == "stays", uses == [] and is_right(behind(one, *chosen)))
            shown = showing(one, several)
            if word != "stays":
                self.assertTrue(shown <= several)
                self.assertNotEqual(effect_of(one, shown), "stays")
            expect(self, [word], list(steps(one, chosen))[len(chosen) - 1:] or [word])
            order = calm_order(one, several)
            if order is not None:
                self.assertTrue(Several(*order) == several)
                self.assertNotIn("breaks", list(steps(one, order)))
            if "breaks" not in list(steps(one, chosen)):
                self.assertTrue(order == chosen)

    def test_reasons_and_tables(self):
        for one in right_ones(120, 146):
            verdicts = Verdicts(one.book)
            for place, word in touching(one)[:6]:
                addition = Addition(place, new_thing(one.caller))
                label, part = reason(one, addition)
                expect(self, word, verdicts[label])
                self.assertIn(label, verdicts)
                self.assertTrue(is_part(part, one.caller))
                expect(self, word, effect(View(part, one.book), addition))
                self.assertIsNotNone(can(one.book, addition.kind, word))
                self.assertLessEqual(len(part.imports), 2)
                self.assertLessEqual(len(part), 1)

    def test_moves_leave_what_is_found(self):
        for one in right_ones(120, 147):
            rows = moves(one)
            for chosen in least_moves(one) if len(rows) <= 8 else []:
                later = moved(one, chosen)
                expect(self, one.results(), later.results())
                expect(self, [True, True], [is_safe(later), accepts(later, paper(later))])
                expect(self, None, flaw(one, chosen))
                self.assertTrue(later.caller.world == one.caller.world)

    def test_a_session_and_a_console(self):
        draw = random.Random(148)
        for one in right_ones(60, 149):
            session, console = Session(one), Console()
            console.run("load " + write(one).replace("\n", "; "))
            for addition in draw.sample(all_additions(one), min(len(all_additions(one)), 3)):
                found = session.add(addition.place)
                told = console.run("add " + write_place(addition.place))
                expect(self, [str(index) for index in found], told.replace("-", "").split())
                self.assertTrue(session.view == behind(one, *session.added))
                expect(self, write(session.view).replace("\n", "; "), console.run("show"))
            expect(self, is_right(session.view), console.run("right") == "yes")
            expect(self, is_right(session.view), effect(one, *session.added) != "breaks")
            with session.trial():
                session.rulebook = draw_book(draw)
            for _ in session.added:
                session.undo()
                console.run("undo")
            self.assertTrue(session.view == one == read(console.run("show").replace("; ", "\n")))


class GuaranteesTest(unittest.TestCase):
    def test_the_order_of_libraries_does_not_count(self):
        draw = random.Random(150)
        for _ in range(120):
            world, book = draw_world(draw, Things(draw)), draw_book(draw)
            rows = [
                (name, list(world.names_of(name).items()), world.gives_of(name), world.spreads_of(name))
                for name in world.library_names()
            ]
            rows = [(name, names, draw.sample(given, len(given)), spreads) for name, names, given, spreads in rows]
            draw.shuffle(rows)
            owners = [(name, world.elder_of(name), list(world.members_of(name).items())) for name in world.class_names()]
            other = World(rows, owners)
            for library in world.library_names():
                expect(self, given_names(world, book, library), given_names(other, book, library))
                for name in "abc":
                    expect(self, gives(world, book, library, name), gives(other, book, library, name))

    def test_all_other_places_leave_each_use(self):
        for one in right_ones(60, 151):
            touched = dict(touching(one))
            thing = new_thing(one.caller)
            for place in places_for(one.caller.world, ["a", "b", fresh_name(one.caller)]):
                later = behind(one, Addition(place, thing))
                word = touched.get(place, "stays")
                expect(self, word == "breaks", not is_right(later))
                expect(self, word == "stays", later.results() == one.results() and is_right(later))

    def test_one_or_two_of_many(self):
        draw = random.Random(152)
        for one in right_ones(80, 153):
            rows = all_additions(one, "ab")
            chosen = [Addition(row.place, 2000 + at) for at, row in enumerate(draw.sample(rows, min(len(rows), 5)))]
            alone = [touched_uses(one, addition) for addition in chosen]
            expect(self, sorted({index for uses in alone for index in uses}), touched_uses(one, *chosen))
            if effect(one, *chosen) != "stays":
                pairs = [[a, b] for at, a in enumerate(chosen) for b in chosen[at + 1:]]
                self.assertTrue(any(effect(one, *part) != "stays" for part in [[a] for a in chosen] + pairs))

    def test_no_paper_says_safe_of_a_caller_that_is_touched(self):
        draw, told = random.Random(154), {True: 0, False: 0}
        for one in right_ones(200, 155):
            grown = draw.choice(({}, draw_growing(draw, one.caller.world)))
            rows = [meeting_rows(one, demand) for demand in demanded(one, **grown)]
            safe = is_safe(one, **grown)
            expect(self, all(rows), safe)
            value = ("safe", tuple(draw.choice(row) if row else None for row in rows))
            expect(self, safe, accepts(one, value, **grown))
            told[safe] += 1
            if safe:
                self.check_safe(draw, one, grown)
        self.assertGreater(min(told.values()), 50)

    def check_safe(self, draw, one, grown):
        """Many additions at growing places leave a safe caller as it is."""
        grows = grower(one, **grown)
        places = [place for place in places_for(one.caller.world, ["a", "b", "c"]) if grows(place)]
        for many in (1, 2, 3, len(places)):
            chosen = draw.sample(places, min(len(places), many))
            additions = [Addition(place, 2000 + at) for at, place in enumerate(chosen)]
            expect(self, "stays", effect(one, *additions))

    def test_no_paper_tells_another_effect(self):
        draw = random.Random(156)
        for one in right_ones(60, 157):
            places = list(places_for(one.caller.world, ["a", "b"]))
            for _ in range(12):
                chosen = tuple(draw.sample(places, min(len(places), draw.choice((1, 2)))))
                word = effect(one, *[Addition(place, 2000 + at) for at, place in enumerate(chosen)])
                for told in ("stays", "changes", "breaks"):
                    wanted = told == word and word != "stays"
                    expect(self, wanted, accepts(one, ("touched", told, chosen)))

    def test_the_least_sets_of_moves(self):
        for one in right_ones(60, 158):
            rows = moves(one)
            if len(rows) <= 4:
                sets = [[row for at, row in enumerate(rows) if number >> at & 1] for number in range(1 << len(rows))]
                good = [row for row in sets if self.is_good(one, row)]
                least = [tuple(row) for row in good if not any(set(other) < set(row) for other in good)]
                expect(self, sorted(least), sorted(least_moves(one)))

    def is_good(self, one, chosen):
        later = moved(one, chosen)
        return later.results() == one.results() and is_safe(later)


class NothingChangesTest(unittest.TestCase):
    def test_a_view_that_all_functions_are_asked_about(self):
        for one in right_ones(30, 159):
            text, results = write(one), one.results()
            other = View(Caller(one.caller.world, one.caller.imports), one.book)
            for call in (touching, risks, demands, paper, moves, least_moves, is_safe, problems):
                if call != least_moves or len(moves(one)) <= 8:
                    first, second = call(one), call(one)
                    expect(self, first, second)
                    if isinstance(first, list):
                        self.assertIsNot(first, second)
                        first.clear()
                        expect(self, second, call(one))
            session = Session(one)
            session.attempt([("rebook", Book.late()), ("undo", None)], keep=False)
            expect(self, [text, results], [write(one), one.results()])
            self.assertTrue(other == View(Caller(one.caller.world, one.caller.imports), one.book))


if __name__ == "__main__":
    unittest.main()
