"""Questions about sets of moves: a set is good if the answer to each of them is yes.

Each question depends on a few moves, so it is answered once for each choice among these, not once for each set.
A set of moves is a number with a bit for each move; the first move has the highest bit.
"""

from addednames.callers import Caller
from addednames.given import reached, seen
from addednames.growth import grows
from addednames.problems import all_names, holder_at_once
from addednames.silences import spot_silences
from addednames.spots import libraries_behind_alls, place_at, spots_of, thing_at
from addednames.touching import clashing_places, mark_places
from addednames.views import View
from addednames.ways import seen_beside


class Offer:
    """An import or a moved use that can stand behind moves: only behind its own move, or only without it.

    The move is told by its bit, which is 0 if nothing takes the import away.
    """

    def __init__(self, entry, move, *, behind=False):
        self.entry = entry
        self.move = move
        self._behind = behind

    def stands(self, chosen):
        """Whether it stands behind some moves."""
        return (chosen & self.move != 0) == self._behind


class Ban:
    """Asks whether some offers do not all stand."""

    def __init__(self, offers):
        self.depends = _joined([offer.move for offer in offers])
        self._offers = offers

    def holds(self, chosen):
        """The answer for some moves."""
        return not all([offer.stands(chosen) for offer in self._offers])


class Footing:
    """Asks whether a use that is not moved finds what it found, and no addition touches it.

    Its spots are those that tell a thing, or where something can be added; each one has a list of those that silence
    it and tell. Some of the spots have a list of offers, one of which has to stand.
    """

    def __init__(self, move, things, silencers, carriers):
        self.depends = _joined([move, *[offer.move for spot in carriers for offer in carriers[spot]]])
        self._move = move
        self._things = things
        self._silencers = silencers
        self._carriers = carriers
        self._answers = {}
        self._wanted = self._found(self._foremost(self._standing(0)))

    def holds(self, chosen):
        """The answer for some moves."""
        key = chosen & self.depends
        if key not in self._answers:
            self._answers[key] = key & self._move != 0 or self._stays(self._standing(key))
        return self._answers[key]

    def _standing(self, chosen):
        """A dict of the spots that there are behind some moves."""
        carriers = self._carriers
        return {
            spot: True
            for spot in self._silencers
            if spot not in carriers or any([offer.stands(chosen) for offer in carriers[spot]])
        }

    def _foremost(self, standing):
        told = [spot for spot in standing if spot in self._things]
        return [spot for spot in told if not any([other in standing for other in self._silencers[spot]])]

    def _found(self, foremost):
        return {self._things[spot]: True for spot in foremost}

    def _stays(self, standing):
        foremost = self._foremost(standing)
        if self._found(foremost) != self._wanted:
            return False
        grown = [spot for spot in standing if spot not in self._things]
        return all([any([other in foremost for other in self._silencers[spot]]) for spot in grown])


def questions(view, plan, bits, grown):
    """The questions about the moves of a right caller, for a dict from the moves to their bits."""
    caller, (_, _, wholes) = view.caller, plan
    offers = _offers(caller, plan, bits)
    entries = [offer.entry for offer in offers]
    # A view with all that can stand behind moves, at once: its spots are those of the uses behind any moves.
    wide = View(Caller(caller.world, entries, own=caller.own, classes=caller.classes, scopes=caller.scopes), view.book)
    moved = [Offer(use, bits["whole", index], behind=True) for index, use in wholes.items()]
    carriers = _carriers(caller.world, offers)
    return [
        *_mark_bans(view, grown),
        *_clash_bans(view, grown, [*offers, *moved]),
        *_once_bans(view, grown, [offer for offer in offers if offer.entry[0] == "all"]),
        *[_footing(wide, grown, carriers, use, bits.get(("whole", index), 0)) for index, use in enumerate(caller.uses)],
    ]


def least_sets(bits, asked):
    """The sets of moves for which all questions hold, but for no proper part of them; smaller ones first."""
    least, sized = [], [0]
    while sized:
        larger = {}
        for chosen in sized:
            if not any([part & chosen == part for part in least]):
                failed = _failed(asked, chosen)
                if failed is None:
                    least.append(chosen)
                else:
                    # A good set with these moves has another one, too, on which the failed question depends.
                    added = [bit for bit in bits if bit & failed.depends and not bit & chosen]
                    larger.update({chosen | bit: True for bit in added})
        # Of two sets of one size, the greater number has the first move that is in one of them alone.
        sized = sorted(list(larger), key=int, reverse=True)
    return least


def _failed(asked, chosen):
    """The first question that does not hold for some moves, or None."""
    for question in asked:
        if not question.holds(chosen):
            return question
    return None


def _joined(numbers):
    """The number with all bits of some numbers."""
    found = 0
    for number in numbers:
        found = found | number
    return found


def _offers(caller, plan, bits):
    """The imports that can stand behind moves, in an order that those of all names keep."""
    homes, spells, _ = plan
    found = []
    for index, entry in enumerate(caller.imports):
        move = bits.get(("home", index), 0) | bits.get(("spell", index), 0)
        found.append(Offer(entry, move))
        if index in homes:
            found.append(Offer(homes[index], move, behind=True))
        # Such an import is missing if all uses for which it comes are moved, but it may be taken to stand even then:
        # the other uses of the name find theirs in scopes, and where the import can clash, the moved uses can, too.
        names = {caller.uses[number][2]: library for number, library in spells.get(index, [])}
        found.extend([Offer(("named", names[name], name, name), move, behind=True) for name in names])
    return found


def _carriers(world, offers):
    """The offers that bring spots: a dict from the second items of the spots, which are indexes or libraries."""
    found = {index: [offer] for index, offer in enumerate(offers)}
    for offer in offers:
        if offer.entry[0] == "all":
            for library in reached(world, offer.entry[1]):
                found.setdefault(library, []).append(offer)
    return found


def _footing(wide, grown, carriers, use, move):
    """The question about a use, which has a move of its own with this bit, or none if the bit is 0."""
    caller, things, silencers = wide.caller, {}, {}
    spots = spots_of(caller, wide.book, use)
    for spot in spots:
        thing = thing_at(caller, use, spot)
        if thing is not None:
            things[spot] = thing
    for spot in spots:
        if spot in things or _grows_at(caller, grown, use, spot):
            silencers[spot] = [other for other in things if spot_silences(caller, wide.book, use, other, spot)]
    carried = {spot: carriers[spot[1]] for spot in silencers if spot[0] in ("named", "all", "spread")}
    return Footing(move, things, silencers, carried)


def _grows_at(caller, grown, use, spot):
    place = place_at(caller, use, spot)
    return place is not None and grows(caller.world, grown, place)


def _mark_bans(view, grown):
    """A ban that all sets of moves break, if an addition touches a mark."""
    met = [place for place in mark_places(view) if grows(view.caller.world, grown, place)]
    return [Ban([])] if met else []


def _clash_bans(view, grown, offers):
    """Bans of named imports and moved uses that can clash behind an addition."""
    named = [offer for offer in offers if offer.entry[0] in ("named", "of")]
    return [Ban([offer]) for offer in named if _can_clash(view, grown, offer.entry)]


def _can_clash(view, grown, entry):
    world, book = view.caller.world, view.book
    _, start, name = entry[:3]
    # An own name cuts off all other libraries from its own one.
    if book.given == "own" and world.thing_at(("name", start, name)) is not None:
        return False
    holder = seen(world, book, start, name)[0]
    return any([grows(world, grown, place) for place in clashing_places(view, [start], holder, name)])


def _once_bans(view, grown, alls):
    """Bans of two imports of all names, or of a single one, through which an addition, or two, clash at once."""
    pairs = _once_pairs(view, grown)
    involved = {library: True for pair in pairs for library in pair}
    beside = {
        past: [seen_beside(view.caller.world, view.book, offer.entry[1], past) for offer in alls]
        for past in involved
    }
    found = {}
    for one, other in pairs:
        first = [index for index, libraries in enumerate(beside[other]) if one in libraries]
        second = [index for index, libraries in enumerate(beside[one]) if other in libraries]
        found.update({(at, to): True for at in first for to in second})
    return [Ban([alls[at], alls[to]]) for at, to in found]


def _once_pairs(view, grown):
    """The pairs of libraries of which not both may be seen: one that has a name, or both, can get it."""
    if view.book.alls != "once":
        return []
    world, met = view.caller.world, libraries_behind_alls(view.caller)
    libraries = [library for library in world.library_names() if library in met and ("name", library) in grown]
    found = {(one, other): True for index, one in enumerate(libraries) for other in libraries[index + 1:]}
    for name in all_names(view):
        holder = holder_at_once(view, name)
        free = [library for library in libraries if grows(world, grown, ("name", library, name))]
        found.update({(holder, library): True for library in free})
    return list(found)
