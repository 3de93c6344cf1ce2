"""What can be said of all placings of a book: how far apart two moments are, and which one is ahead."""

from crewclocks.bounds import Edge, Frame, are_apart, edges_of, farthest, lots_of, own_coordinate, placed, steps_of
from crewclocks.books import own_place
from crewclocks.errors import Apart, BadMoment, BadPlane, NotFit
from crewclocks.events import is_ahead
from crewclocks.exact import ONE, ZERO, added, inverse, is_same, is_time, multiplied, subtracted
from crewclocks.fitting import fits, is_placing, moment_in
from crewclocks.steps import can_go, is_path, is_strict, ships_on, worth_along
from crewclocks.words import PLANES


def check_fits(book):
    told = fits(book)
    if told[0] != "placing":
        raise NotFit(told)


def is_moment(book, value):
    if not isinstance(value, tuple) or len(value) != 2:
        return False
    return value[0] in book.names and is_time(value[1])


def check_moments(book, one, other):
    for value in (one, other):
        if not is_moment(book, value):
            raise BadMoment(value)


class View:
    """Two moments of a book, seen in a plane by the onlooker for whom the ship of the first one has pace 1."""

    def __init__(self, book, plane, one, other):
        self.frame = Frame(book)
        self.plane = plane
        self.one = one
        self.other = other
        self.scale = inverse(self.frame.paces[one[0]])
        here = own_coordinate(self.frame, own_place(book, *one), one[0], plane, self.scale)
        there = own_coordinate(self.frame, own_place(book, *other), other[0], plane, self.scale)
        self.own_gap = subtracted(there, here)


def gap(book, plane, one, other):
    """(least, greatest) of the gap from one to other in the plane, over all placings."""
    check_fits(book)
    if plane not in PLANES:
        raise BadPlane(plane)
    check_moments(book, one, other)
    view = View(book, plane, one, other)
    if are_apart(view.frame, one[0], other[0]):
        raise Apart((one[0], other[0]))
    return bounds_of(view)


def bounds_of(view):
    one, other = view.one[0], view.other[0]
    edges = edges_of(view.frame, view.plane, view.scale)
    least = farthest(edges, (one,))[0].get(other)
    greatest = farthest(edges, (other,))[0].get(one)
    if least is not None:
        least = (added(least.worth, view.own_gap), least.strict == 0, steps_of(least.edges))
    if greatest is not None:
        greatest = (subtracted(view.own_gap, greatest.worth), greatest.strict == 0, steps_of(greatest.edges))
    return least, greatest


def shows_gap(book, plane, one, other, value):
    """Whether any value is right as what gap tells."""
    told = gap(book, plane, one, other)
    if not isinstance(value, tuple) or len(value) != 2:
        return False
    view = View(book, plane, one, other)
    return is_bound(view, told[0], value[0], True) and is_bound(view, told[1], value[1], False)


def is_bound(view, told, value, is_least):
    """Whether any value is right as this bound."""
    if told is None or not isinstance(value, tuple) or len(value) != 3:
        return told is None and value is None
    return is_same(value[:2], told[:2]) and is_chain(view, told, value[2], is_least)


def is_chain(view, told, chain, is_least):
    """Whether any value is a chain that shows this bound."""
    one, other = view.one[0], view.other[0]
    if one == other:
        return is_same(chain, ())
    ties = view.frame.ties
    if not is_path(ties, chain) or not can_go(ties, chain, view.plane):
        return False
    ships = ships_on(ties, chain)
    if (ships[0], ships[-1]) != ((one, other) if is_least else (other, one)):
        return False
    if not told[1] and not is_strict(ties, chain, view.plane):
        return False
    pace = view.frame.paces[ships[0]]
    worth = worth_along(ties, chain, view.plane, multiplied(pace, view.scale))
    return told[0] == (added(view.own_gap, worth) if is_least else subtracted(view.own_gap, worth))


def surely(book, one, other):
    """Whether in all placings the event of one is ahead of that of other: chains, or a placing in which it is not."""
    check_fits(book)
    check_moments(book, one, other)
    placing = not_ahead(book, one, other)
    if placing is not None:
        return ("not", placing)
    return ("ahead",) + tuple([bounds_of(View(book, plane, one, other))[0][2] for plane in PLANES])


def not_ahead(book, one, other):
    """A placing in which the event of one is not ahead of that of other; None if there is none."""
    frame = Frame(book)
    for plane in PLANES:
        placing = placed(frame, {plane: [edge_back(book, frame, plane, one, other, 1)]})
        if placing is not None:
            return placing
    # No coordinate of one can be the greater one, so what is left is one event for both.
    return placed(frame, {plane: [edge_back(book, frame, plane, one, other, 0)] for plane in PLANES})


def edge_back(book, frame, plane, one, other, strict):
    """The Edge by which one's coordinate is not less than other's, and, if strict is 1, not the same."""
    here = own_coordinate(frame, own_place(book, *one), one[0], plane, ONE)
    there = own_coordinate(frame, own_place(book, *other), other[0], plane, ONE)
    return Edge(other[0], one[0], subtracted(there, here), strict, None)


def shows_surely(book, one, other, value):
    """Whether any value is right as what surely tells."""
    told = surely(book, one, other)
    if not isinstance(value, tuple) or len(value) not in (2, 3):
        return False
    if len(value) == 2:
        return value[0] == "not" and is_placing(book, value[1]) and not is_ahead_in(book, value[1], one, other)
    if value[0] != "ahead" or told[0] != "ahead":
        return False
    return all([is_least_chain(book, plane, one, other, part) for plane, part in zip(PLANES, value[1:])])


def is_ahead_in(book, placing, one, other):
    return is_ahead(moment_in(book, placing, *one)[0], moment_in(book, placing, *other)[0])


def is_least_chain(book, plane, one, other, value):
    view = View(book, plane, one, other)
    return is_chain(view, bounds_of(view)[0], value, True)


def one_sky(book):
    """Whether all placings are one but for the onlooker and for a shift."""
    check_fits(book)
    lots = lots_of(Frame(book))
    if len(lots) > 1:
        return ("apart", lots[0][0], lots[1][0])
    first = (book.names[0], ZERO)
    for plane in PLANES:
        for name in book.names[1:]:
            if slides(book, plane, first, (name, ZERO)):
                return ("slides", plane, first, (name, ZERO))
    return ("one",)


def slides(book, plane, one, other):
    """Whether least and greatest of the gap between moments of one part are not one number."""
    least, greatest = bounds_of(View(book, plane, one, other))
    return least is None or greatest is None or least[0] != greatest[0]


def shows_one_sky(book, value):
    """Whether any value is right as what one_sky tells."""
    told = one_sky(book)
    if not isinstance(value, tuple) or not value or value[0] != told[0] or len(value) != len(told):
        return False
    if told[0] == "one":
        return True
    if told[0] == "apart":
        name, its_name = value[1:]
        return name in book.names and its_name in book.names and are_apart(Frame(book), name, its_name)
    plane, one, other = value[1:]
    if plane not in PLANES or not is_moment(book, one) or not is_moment(book, other):
        return False
    return slides(book, plane, one, other)
