"""The examples of the document, as they stand there."""

import unittest

from addednames.errors import NamesError

EXAMPLES = (
    """
>>> from addednames.additions import Addition
>>> from addednames.worlds import World
>>> world = World([('l', [('a', 1)], ['m'], []), ('m', [('b', 2)], ['l'], [])])
>>> [world.library_names(), len(world), world[2], 3 in world]
[['l', 'm'], 2, ('name', 'm', 'b'), False]
>>> (world + Addition(('name', 'l', 'b'), 3)).names_of('l')
{'a': 1, 'b': 3}
>>> world + Addition(('name', 'm', 'b'), 3)
raises AlreadyThere(place=('name', 'm', 'b'))
""",
    """
>>> from addednames.books import Book
>>> from addednames.given import cuts_off, gives, reached, seen
>>> from addednames.worlds import World
>>> world = World([('l', [], ['m', 'n'], []), ('m', [('a', 1)], ['o'], []), ('n', [], ['o'], []), ('o', [('a', 2), ('b', 3)], [], [])])
>>> [reached(world, 'l'), seen(world, Book(), 'l', 'a'), seen(world, Book(), 'm', 'a')]
[['l', 'm', 'n', 'o'], ['m', 'o'], ['m']]
>>> [gives(world, Book(), 'l', 'a'), gives(world, Book(), 'l', 'b'), cuts_off(world, 'l', 'm', 'o')]
[('clash',), ('found', 3), False]
""",
    """
>>> from addednames.books import Book
>>> from addednames.callers import Caller
>>> from addednames.views import View
>>> from addednames.worlds import World
>>> world = World([('l', [('a', 1)], [], []), ('m', [('a', 2)], [], [])], [('k', None, [('a', 3)])])
>>> caller = Caller(world, [('all', 'l'), ('all', 'm')], classes=[('h', 'k', [])], scopes=[('body', None, 'h')], uses=[('name', None, 'a'), ('name', 0, 'a')])
>>> [View(caller, Book()).results(), View(caller, Book(alls='last', bodies='behind')).results()]
[[('clash',), ('found', 3)], [('found', 2), ('found', 2)]]
>>> View(caller, Book()).spots(1)
[('scope', 0), ('elder', 0, 1), ('own',), ('all', 0, 'l'), ('all', 1, 'm')]
""",
    """
>>> from addednames.additions import Addition
>>> from addednames.books import Book
>>> from addednames.callers import Caller
>>> from addednames.effects import effect
>>> from addednames.views import View
>>> from addednames.worlds import World
>>> world = World([('l', [], ['m'], []), ('m', [('a', 1)], [], [])])
>>> caller = Caller(world, [('named', 'l', 'a', 'b')], uses=[('name', None, 'b')])
>>> addition = Addition(('name', 'l', 'a'), 2)
>>> [effect(View(caller, Book()), addition), effect(View(caller, Book(given='both')), addition)]
['changes', 'breaks']
""",
    """
>>> from addednames.books import Book
>>> from addednames.cases import can, table
>>> [can(Book(), 'name', 'breaks'), can(Book(), 'spread', 'changes'), can(Book.strict(), 'name', 'changes')]
[('all', 'all', 'earlier'), ('spread', 'spread', 'nearer'), None]
>>> table(Book())[7:9]
[(('named', 'all', ''), 'stays'), (('all', 'all', 'earlier'), 'breaks')]
""",
    """
>>> from addednames.books import Book
>>> from addednames.callers import Caller
>>> from addednames.papers import is_safe
>>> from addednames.touching import risk_ways, risks, touching
>>> from addednames.views import View
>>> from addednames.worlds import World
>>> world = World([('l', [], ['m', 'n'], []), ('m', [('a', 1)], [], []), ('n', [], [], [])])
>>> caller = Caller(world, [('all', 'l')], uses=[('name', None, 'a')])
>>> view = View(caller, Book(alls='once'))
>>> touching(view)
[(('name', 'l', 'a'), 'changes'), (('name', 'n', 'a'), 'breaks')]
>>> [risks(view), risk_ways(view, 'n', 'm'), is_safe(view), is_safe(view, libraries=['m'])]
[[('m', 'n')], ((0, ['l', 'n']), (0, ['l', 'm'])), False, True]
""",
    """
>>> from addednames.additions import Addition
>>> from addednames.books import Book
>>> from addednames.callers import Caller
>>> from addednames.orders import calm_order, effect_of, showing, steps
>>> from addednames.several import Several
>>> from addednames.views import View
>>> from addednames.worlds import World
>>> world = World([('l', [], ['m', 'n'], []), ('m', [('a', 1)], [], []), ('n', [], [], [])])
>>> view = View(Caller(world, [('named', 'l', 'a', 'a')]), Book())
>>> first, second = Addition(('name', 'n', 'a'), 2), Addition(('name', 'l', 'a'), 3)
>>> both = first | Several(second)
>>> [list(steps(view, [first, second])), effect_of(view, both), calm_order(view, both) == [second, first]]
[['breaks', 'stays'], 'stays', True]
>>> [showing(view, both) == Several(first), first in both, both[('name', 'l', 'a')] == second, both - second <= both]
[True, True, True, True]
""",
    """
>>> from addednames.books import Book
>>> from addednames.callers import Caller
>>> from addednames.checker import accepts, is_fence
>>> from addednames.papers import demands, paper
>>> from addednames.views import View
>>> from addednames.worlds import World
>>> world = World([('l', [], ['m'], []), ('m', [('a', 1)], ['o'], []), ('o', [], ['l'], [])])
>>> view = View(Caller(world, [('all', 'l')], uses=[('name', None, 'a')]), Book())
>>> [demands(view, libraries=['o']), is_fence(world, 'l', 'm', 'o', ('l',))]
[[('use', 0, ('all', 0, 'o'))], True]
>>> accepts(view, ('safe', (('use', 0, ('all', 0, 'o'), ('all', 0, 'm'), ('l',)),)), libraries=['o'])
True
>>> paper(view)
('touched', 'changes', (('name', 'l', 'a'),))
""",
    """
>>> from addednames.books import Book
>>> from addednames.callers import Caller
>>> from addednames.moves import flaw, least_moves, moved, moves
>>> from addednames.views import View
>>> from addednames.worlds import World
>>> world = World([('l', [], ['m'], []), ('m', [('a', 1)], [], [])])
>>> view = View(Caller(world, [('all', 'l')], uses=[('name', None, 'a')]), Book())
>>> [moves(view), flaw(view, []), moved(view, [('spell', 0)]).caller.imports]
[[('spell', 0), ('whole', 0)], ('touched', ('name', 'l', 'a'), 'changes'), (('named', 'm', 'a', 'a'),)]
>>> least_moves(view)
[(('spell', 0),), (('whole', 0),)]
""",
)


def rows_of(text):
    """The tuples (code, answer) of an example; the answer is empty where none stands."""
    rows = []
    for line in text.strip().split("\n"):
        if line.startswith(">>> "):
            rows.append((line[4:], ""))
        else:
            rows[-1] = (rows[-1][0], line)
    return rows


class ExamplesTest(unittest.TestCase):
    def check(self, code, answer, names):
        if not answer:
            exec(code, names)
        elif answer.startswith("raises "):
            with self.assertRaises(NamesError) as caught:
                eval(code, names)
            values = ", ".join(f"{word}={value!r}" for word, value in vars(caught.exception).items())
            self.assertEqual(f"raises {type(caught.exception).__name__}({values})", answer)
        else:
            self.assertEqual(repr(eval(code, names)), answer, code)

    def test_examples(self):
        answers = 0
        for text in EXAMPLES:
            names = {}
            for code, answer in rows_of(text):
                self.check(code, answer, names)
                answers += answer != ""
        self.assertEqual(answers, 19)


if __name__ == "__main__":
    unittest.main()
