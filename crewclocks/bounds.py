"""What all placings of a book share: paces, and how much at least one coordinate is more than another."""

from crewclocks.exact import ONE, ZERO, added, in_least_terms, is_less, multiplied, subtracted
from crewclocks.steps import begin_of, coordinate, end_of, factor_of, may_go, ties_of, worth_of
from crewclocks.words import PLANES


class Frame:
    """A book's ties, and the paces of its ships at own time 0, if the first ship of each part has 1.

    `walks` tells of each name (first ship of its part, pace, steps from there); the paces are of use if no
    ring bars by its factor.
    """

    def __init__(self, book):
        self.names = book.names
        self.ties = ties_of(book)
        self.walks = walks_of(book.names, self.ties)
        self.paces = {name: self.walks[name][1] for name in book.names}


class Edge:
    """That a coordinate is more in the ship `end` than in `start`, each at own time 0: by `worth` at least,
    and, if `strict` is 1, not 0, by more. `step` is the step that tells it, None if none does.
    """

    def __init__(self, start, end, worth, strict, step):
        self.start = start
        self.end = end
        self.worth = worth
        self.strict = strict
        self.step = step


class Reached:
    """The greatest sum of worths with which a ship was come to, how many strict steps there are, and the
    edges that lead there, with the ships on the way."""

    def __init__(self, worth, strict, edges, ships):
        self.worth = worth
        self.strict = strict
        self.edges = edges
        self.ships = ships


def walks_of(names, ties):
    walks = {}
    for first in names:
        if first not in walks:
            walks[first] = (first, ONE, ())
            while walk_on(ties, walks):
                pass
    return walks


def walk_on(ties, walks):
    """Go on by one step from each ship come to; whether another one was come to."""
    before = len(walks)
    for number, tie in enumerate(ties):
        for way in (1, -1):
            start, end = begin_of(tie, way), end_of(tie, way)
            if start in walks and end not in walks:
                first, pace, steps = walks[start]
                walks[end] = (first, multiplied(pace, factor_of(tie, way)), steps + ((number, way),))
    return len(walks) > before


def lots_of(frame):
    """The tuples of names that hang together by sayings."""
    lots = {}
    for name in frame.names:
        lots.setdefault(frame.walks[name][0], []).append(name)
    return tuple([tuple(lot) for lot in lots.values()])


def are_apart(frame, one, other):
    return frame.walks[one][0] != frame.walks[other][0]


def colour_ring(frame):
    """A ring that bars by its factor; None if none does."""
    for number, tie in enumerate(frame.ties):
        if frame.paces[tie.name] != multiplied(frame.paces[tie.other], tie.factor):
            return closed(frame.walks[tie.other][2], (number, 1), frame.walks[tie.name][2])
    return None


def closed(there, step, back):
    """The ring that walks to where step begins, goes it, and walks back; both walks from the same ship."""
    shared = 0
    while shared < len(there) and shared < len(back) and there[shared] == back[shared]:
        shared += 1
    home = [(number, -way) for number, way in reversed(back[shared:])]
    return there[shared:] + (step,) + tuple(home)


def edges_of(frame, plane, scale):
    """All steps that can go in this plane as edges, if all paces are so many times as great."""
    edges = []
    for number, tie in enumerate(frame.ties):
        both = multiplied(frame.paces[tie.other], scale), multiplied(frame.paces[tie.name], scale)
        for way in (1, -1):
            if may_go(tie, way, plane):
                worth = worth_of(tie, way, plane, *both)
                strict = 1 if tie.strict == plane else 0
                edges.append(Edge(begin_of(tie, way), end_of(tie, way), worth, strict, (number, way)))
    return edges


def farthest(edges, names):
    """(found, ring): the Reached of each ship that can be come to from one of these names, beginning with 0.

    If that has no end, as a ring leads to more than where it began, found is None and ring the edges of
    such a ring; otherwise ring is None.
    """
    found = {name: Reached(ZERO, 0, (), (name,)) for name in names}
    moved = True
    while moved:
        moved = False
        for edge in edges:
            further = gone(found, edge)
            if further is not None:
                # The way to this ship told less when it was here before, so what came since leads above.
                if edge.end in further.ships[:-1]:
                    return None, further.edges[further.ships.index(edge.end):]
                found[edge.end] = further
                moved = True
    return found, None


def gone(found, edge):
    """What this edge leads to, if that is more than what was found for its end."""
    if edge.start not in found:
        return None
    here = found[edge.start]
    worth, strict = added(here.worth, edge.worth), here.strict + edge.strict
    if edge.end in found:
        there = found[edge.end]
        if is_less(worth, there.worth) or (worth == there.worth and strict <= there.strict):
            return None
    return Reached(worth, strict, here.edges + (edge,), here.ships + (edge.end,))


def steps_of(edges):
    return tuple([edge.step for edge in edges])


def short_ring(frame, plane):
    """A ring of the factor 1 that bars in this plane; None if none does. No ring may bar by its factor."""
    ring = farthest(edges_of(frame, plane, ONE), frame.names)[1]
    return None if ring is None else steps_of(ring)


def barred(frame):
    """A ring that bars the book, as fits tells it; None if none does."""
    ring = colour_ring(frame)
    if ring is not None:
        return ("colours", ring)
    for plane in PLANES:
        ring = short_ring(frame, plane)
        if ring is not None:
            return ("short", plane, ring)
    return None


def placed(frame, extra):
    """A placing in which the edges of extra, by planes, hold, too; None if there is none."""
    numbers = []
    for plane in PLANES:
        edges = edges_of(frame, plane, ONE) + extra.get(plane, [])
        found, ring = farthest(edges, frame.names)
        if ring is not None:
            return None
        numbers.append(spread(edges, found))
    return tuple([(name, (numbers[0][name], numbers[1][name]), frame.paces[name]) for name in frame.names])


def spread(edges, found):
    """Numbers of the ships with which all edges hold: the greatest sums, and a little more for strict steps."""
    parts = 1
    for edge in edges:
        here, there = found[edge.start], found[edge.end]
        if here.strict > there.strict:
            # There is room then, as there would be no fewer strict steps otherwise: so many parts of 1 that
            # what here is more by for its strict steps stays below it.
            top, bottom = subtracted(subtracted(there.worth, here.worth), edge.worth)
            parts = max(parts, bottom * (here.strict - there.strict) // top + 1)
    return {name: added(reached.worth, in_least_terms(reached.strict, parts)) for name, reached in found.items()}


def own_coordinate(frame, place, name, plane, scale):
    """The own u or v of the ship where place, (pace, u, v), tells, if all paces are so many times as great."""
    return coordinate(place[1:], multiplied(frame.paces[name], scale), plane)
