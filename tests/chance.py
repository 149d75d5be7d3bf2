"""Worlds, callers and books that are drawn at random, the same ones in each run."""

import random

from addednames.additions import Addition
from addednames.books import ORDERS, Book
from addednames.callers import Caller
from addednames.effects import new_thing, places_for
from addednames.moves import moves
from addednames.problems import problems
from addednames.views import View
from addednames.worlds import World

NAMES = ("a", "b")


class Things:
    """Gives out things that are all unlike, and rows of named ones."""

    def __init__(self, draw):
        self.draw = draw
        self.last = 0

    def new(self):
        self.last += self.draw.choice((1, 1, 1, 2, 3))
        return self.last

    def named(self, share):
        return [(name, self.new()) for name in NAMES if self.draw.random() < share]


def draw_book(draw, **fixed):
    parts = {
        "order": draw.choice(ORDERS),
        "given": draw.choice(("own", "both")),
        "alls": draw.choice(("use", "once", "first", "last")),
        "bodies": draw.choice(("ahead", "behind", "never")),
        "spreads": draw.choice(("member", "spread", "tie")),
        "near": draw.choice((True, False)),
        "marks": draw.choice((True, False)),
    }
    return Book(**{**parts, **fixed})


def draw_world(draw, things, libraries="lmnop", classes="gjk"):
    names = libraries[: draw.randint(1, len(libraries))]
    owners = classes[: draw.randint(0, len(classes))]
    share = draw.choice((0.1, 0.25, 0.5))
    class_rows = [
        (owner, draw.choice([None, *owners[:index], *owners[:index]]), things.named(share))
        for index, owner in enumerate(owners)
    ]
    library_rows = []
    for name in names:
        others = [other for other in names if other != name]
        gives = draw.sample(others, draw.randint(0, min(2, len(others))))
        spreads = [(owner, member, thing) for owner in owners for member, thing in things.named(share / 2)]
        library_rows.append((name, things.named(share), gives, spreads))
    return World(library_rows, class_rows)


def draw_import(draw, world):
    kind = draw.choice(("named", "named", "all", "all", "whole"))
    library = draw.choice(world.library_names())
    if kind == "named":
        return (kind, library, draw.choice(NAMES), draw.choice(NAMES))
    return (kind, library)


def draw_classes(draw, things, world):
    """Own classes; members are marked as they have to be, but for a few."""
    rows = []
    for name in "hiq"[: draw.randint(0, 3)]:
        elder = draw.choice([None, *world.class_names(), *[row[0] for row in rows]])
        above = Caller(world, classes=rows).chain(elder) if elder else []
        held = [Caller(world, classes=rows).members_of(owner) for owner in above]
        members = [(n, t, any(n in row for row in held) != (draw.random() < 0.02)) for n, t in things.named(0.4)]
        rows.append((name, elder, members))
    return rows


def draw_scopes(draw, things, classes):
    rows, depths = [], []
    for index in range(draw.randint(0, 4)):
        parent = draw.choice([None, *[at for at in range(index) if depths[at] < 4]] + ([index - 1] if index else []))
        depths.append(1 if parent is None else depths[parent] + 1)
        if classes and draw.random() < 0.6:
            rows.append(("body", parent, draw.choice(classes)[0]))
        else:
            rows.append(("block", parent, things.named(0.25)))
    return rows


def all_uses(caller):
    owners = [*caller.world.class_names(), *[row[0] for row in caller.classes]]
    wholes = sorted({row[1] for row in caller.imports if row[0] == "whole"})
    starts = [("name", at) for at in [None, *range(len(caller.scopes))]]
    starts += [("member", owner) for owner in owners] + [("of", library) for library in wholes]
    return [(*start, name) for start in starts for name in NAMES]


def draw_caller(draw, **fixed):
    """A caller with some uses, of which some may find nothing."""
    things = Things(draw)
    world = draw_world(draw, things, **fixed)
    imports = [draw_import(draw, world) for _ in range(draw.randint(0, 4))]
    classes = draw_classes(draw, things, world)
    scopes = draw_scopes(draw, things, classes)
    caller = Caller(world, imports, own=things.named(0.2), classes=classes, scopes=scopes)
    uses = all_uses(caller)
    return caller.with_uses(draw.sample(uses, min(len(uses), draw.randint(0, 5))))


def draw_view(draw, book=None, **fixed):
    return View(draw_caller(draw, **fixed), draw_book(draw) if book is None else book)


def draw_right_view(draw, **fixed):
    """A view of a right caller; what is wrong with a drawn one is taken away, where that is easily done."""
    while True:
        view = draw_view(draw, **fixed)
        caller, found = view.caller, problems(view)
        wrong = [row[1] for row in found if row[0] == "import"]
        imports = [row for index, row in enumerate(caller.imports) if index not in wrong]
        if any(row[0] == "once" for row in found):
            imports = [row for row in imports if row[0] != "all"]
        caller = Caller(caller.world, imports, own=caller.own, classes=caller.classes, scopes=caller.scopes)
        uses = all_uses(caller)
        results = View(caller.with_uses(uses), view.book).results()
        uses = [use for use, result in zip(uses, results) if result[0] == "found"]
        view = View(caller.with_uses(draw.sample(uses, min(len(uses), draw.randint(0, 5)))), view.book)
        if not problems(view):
            return view


def right_views(many, seed, **fixed):
    draw = random.Random(seed)
    return [draw_right_view(draw, **fixed) for _ in range(many)]


def draw_moving_view(draw, least=3, **fixed):
    """A view of a right caller with at least so many moves, and at most eight, of which often several use one name."""
    while True:
        things = Things(draw)
        world = draw_world(draw, things, libraries=draw.choice(("lm", "lmn", "lmno")))
        imports = [draw_import(draw, world) for _ in range(draw.randint(1, 6))]
        classes = draw_classes(draw, things, world)
        parts = {"own": things.named(0.15), "classes": classes, "scopes": draw_scopes(draw, things, classes)}
        book = draw_book(draw, **fixed)
        found = problems(View(Caller(world, imports, **parts), book))
        imports = [row for index, row in enumerate(imports) if ("import", index) not in found]
        if any(row[0] == "once" for row in found):
            alls = [index for index, row in enumerate(imports) if row[0] == "all"]
            imports = [row for index, row in enumerate(imports) if index not in alls[1:]]
        caller = Caller(world, imports, **parts)
        uses = all_uses(caller)
        uses = [use for use, result in zip(uses, View(caller.with_uses(uses), book).results()) if result[0] == "found"]
        if uses:
            view = View(caller.with_uses([draw.choice(uses) for _ in range(draw.randint(1, 8))]), book)
            if not problems(view) and least <= len(moves(view)) <= 8:
                return view


def moving_views(many, seed, **fixed):
    draw = random.Random(seed)
    return [draw_moving_view(draw, **fixed) for _ in range(many)]


def views(many, seed, **fixed):
    draw = random.Random(seed)
    return [draw_view(draw, **fixed) for _ in range(many)]


def all_additions(view, names=(*NAMES, "c")):
    """An addition at each place for some names at which there is no thing."""
    thing = new_thing(view.caller)
    return [Addition(place, thing) for place in places_for(view.caller.world, names)]


def draw_growing(draw, world):
    """Arguments that tell what grows: all, some or nothing, and some names twice."""
    grown = {}
    for word, names in [("libraries", world.library_names()), ("classes", world.class_names())]:
        chosen = [name for name in names if draw.random() < draw.choice((0.3, 0.8))]
        chosen = [*chosen, *chosen[: draw.randint(0, 2)]]
        draw.shuffle(chosen)
        grown[word] = draw.choice((None, chosen, tuple(chosen)))
    return grown
