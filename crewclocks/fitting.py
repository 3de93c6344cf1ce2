"""Whether there is a sky in which all sayings of a book are so: a placing of its ships, or a ring that bars it."""

from crewclocks.bounds import Frame, barred, colour_ring, edges_of, farthest, lots_of, placed
from crewclocks.books import own_place, without_saying
from crewclocks.errors import NoPaces, Wide
from crewclocks.events import is_event
from crewclocks.exact import ONE, added, divided, is_above_zero, is_less, multiplied
from crewclocks.flashes import colour
from crewclocks.steps import Tie, all_rings, bars, factor_along, is_ring, is_short, ties_of, worth_of
from crewclocks.words import PLANES

MOST_SAYINGS = 10


def is_placing(book, value):
    """Whether any value is a placing of the book that fits."""
    if not isinstance(value, tuple) or len(value) != len(book.names):
        return False
    if not all([is_row(row, name) for row, name in zip(value, book.names)]):
        return False
    return all([is_so(book, value, saying) for saying in book.sayings])


def is_row(value, name):
    """Whether any value tells where the ship of this name is, and with which pace."""
    if not isinstance(value, tuple) or len(value) != 3:
        return False
    return value[0] == name and is_event(value[1]) and is_above_zero(value[2])


def moment_in(book, placing, name, time):
    """(event, pace) of the ship at this own time in the placing."""
    _, (u, v), first = placing[book.names.index(name)]
    pace, own_u, own_v = own_place(book, name, time)
    return (added(u, multiplied(own_u, first)), added(v, divided(own_v, first))), multiplied(pace, first)


def is_so(book, placing, saying):
    """Whether this saying is so in the placing."""
    name, time = saying[1:3]
    other, its_time, worth = saying[-3:]
    here, pace = moment_in(book, placing, name, time)
    there, its_pace = moment_in(book, placing, other, its_time)
    if saying[0] == "passed":
        return here == there and divided(its_pace, pace) == worth
    side = saying[3]
    if colour(side, its_pace, pace) != worth:
        return False
    if side == "left":
        return here[1] == there[1] and is_less(there[0], here[0])
    return here[0] == there[0] and is_less(there[1], here[1])


def fits(book):
    """A placing that fits, or a ring that bars."""
    frame = Frame(book)
    told = barred(frame)
    if told is not None:
        return told
    return ("placing", placed(frame, {}))


def shows_fits(book, value):
    """Whether any value is right as what fits tells of the book."""
    if not isinstance(value, tuple) or len(value) not in (2, 3):
        return False
    ring = value[-1]
    if value[0] == "placing" and len(value) == 2:
        return is_placing(book, ring)
    ties = ties_of(book)
    if not is_ring(ties, ring):
        return False
    factor = factor_along(ties, ring)
    if len(value) == 2:
        return value[0] == "colours" and factor != ONE
    return value[0] == "short" and factor == ONE and value[1] in PLANES and is_short(ties, ring, value[1])


def parts(book):
    """The lots of ships that hang together by sayings."""
    return lots_of(Frame(book))


def paces(book):
    """(name, pace at own time 0) of each ship, if the first one of its part has 1 there."""
    frame = Frame(book)
    ring = colour_ring(frame)
    if ring is not None:
        raise NoPaces(ring)
    return tuple([(name, frame.paces[name]) for name in book.names])


def needless(book, number):
    """Whether each placing that fits the book without this saying fits the book."""
    frame = Frame(without_saying(book, number))
    if barred(frame) is not None:
        return True
    tie = Tie(book, book.sayings[number])
    if frame.paces[tie.name] != multiplied(frame.paces[tie.other], tie.factor):
        return False
    return all([follows(frame, tie, plane) for plane in PLANES])


def follows(frame, tie, plane):
    """Whether what the tie tells of this plane is so in all placings."""
    worth = worth_of(tie, 1, plane, frame.paces[tie.other], frame.paces[tie.name])
    there = farthest(edges_of(frame, plane, ONE), (tie.other,))[0].get(tie.name)
    if there is None or is_less(there.worth, worth):
        return False
    if tie.strict == plane:
        return there.worth != worth or there.strict > 0
    back = farthest(edges_of(frame, plane, ONE), (tie.name,))[0].get(tie.other)
    # Both ways together never lead above 0, so it is level if each leads as far as the tie tells.
    return back is not None and added(back.worth, worth)[0] >= 0


def least_bars(book):
    """All lots of sayings with which alone the book has no placing that fits, and with each one less has one."""
    if len(book.sayings) > MOST_SAYINGS:
        raise Wide(len(book.sayings))
    ties = ties_of(book)
    found = []
    for ring in all_rings(ties, book.names):
        lot = tuple(sorted([number for number, _ in ring]))
        if lot not in found and bars(ties, ring):
            found.append(lot)
    return tuple(sorted([whole for whole in found if not any([is_part(other, whole) for other in found])]))


def is_part(lot, other):
    """Whether the lot is some, but not all, of the other one."""
    return len(lot) < len(other) and all([number in other for number in lot])
