"""Clocks set by echoes: what a crew adds to another one's clock if its flash was answered halfway between."""

from crewclocks.errors import NoEcho
from crewclocks.exact import added, multiplied, subtracted
from crewclocks.flashes import heard

HALF = (1, 2)


def echo(one, other, time):
    """(own time of hearing, one's own time of the answer) of a flash of one's; None if it is not heard or answered."""
    told = heard(other, one.at(time))
    if told is None:
        return None
    answer = heard(one, other.at(told[1]))
    if answer is None:
        return None
    return told[1], answer[1]


def half(one, other, time):
    """(own time of hearing, what is to be added then, so that it shows half the sum of one's two times)."""
    told = echo(one, other, time)
    if told is None:
        raise NoEcho(time)
    return told[0], subtracted(multiplied(HALF, added(time, told[1])), told[0])


def alike(one, other):
    """Whether all pieces of both flights have one and the same pace."""
    pieces = one.pieces + other.pieces
    return all([pace == pieces[0][0] for pace, _ in pieces])
