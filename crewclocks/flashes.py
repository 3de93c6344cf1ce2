"""Flashes: where they come, with which colour, and those that are answered for ever."""

from crewclocks.courses import hearing, time_at
from crewclocks.errors import BadFactor, BadMany, BadModulus, BadSide, BadTime
from crewclocks.events import check_event, check_pace
from crewclocks.exact import ONE, ZERO, divided, is_fraction, is_less, is_plain_integer, is_time, multiplied
from crewclocks.words import SIDES


def heard(flight, event):
    """(side, own time) at which a flash from event comes to the flight; None if it never does."""
    check_event(event)
    return hearing(flight, event)


def colour(side, sender, hearer):
    """The colour of a flash from this side, sent with the one pace and heard with the other."""
    if side not in SIDES:
        raise BadSide(side)
    check_pace(sender)
    check_pace(hearer)
    if side == "left":
        return divided(sender, hearer)
    return divided(hearer, sender)


def told_first(flight, event):
    """The least own time of the flight at which event is ahead of where it is, or is that; None if none is."""
    check_event(event)
    latest = ZERO
    for plane in (0, 1):
        if is_less(flight.start[plane], event[plane]):
            time = time_at(flight, plane, event[plane])
            if time is None:
                return None
            if is_less(latest, time):
                latest = time
    return latest


def check_throw(time, factor, many, most):
    if not is_time(time):
        raise BadTime(time)
    if not is_fraction(factor) or not is_less(ONE, factor):
        raise BadFactor(factor)
    if not is_plain_integer(many) or not 0 <= many <= most:
        raise BadMany(many)


def thrown_plain(time, factor, many):
    """The own time of the hearing with this number: time times the many-th power of factor."""
    check_throw(time, factor, many, 60)
    worth = time
    for _ in range(many):
        worth = multiplied(worth, factor)
    return worth


def thrown(time, factor, many, modulus):
    """The own time of the hearing with this number by its remainder."""
    check_throw(time, factor, many, 10 ** 18)
    if not is_modulus(modulus) or time[1] % modulus == 0 or factor[1] % modulus == 0:
        raise BadModulus(modulus)
    top = time[0] * power(factor[0], many, modulus)
    bottom = time[1] * power(factor[1], many, modulus)
    # By a prime the power with two less than it, times the number, leaves 1.
    return top * power(bottom, modulus - 2, modulus) % modulus


def is_modulus(value):
    """Whether value is a prime from 3 to 9973."""
    if not is_plain_integer(value) or not 3 <= value <= 9973:
        return False
    # 100 times 100 is above 9973.
    return all([value % divisor != 0 for divisor in range(2, min(value, 100))])


def power(base, exponent, modulus):
    """The remainder of the power; by squaring, as the exponent may have many figures."""
    worth = 1
    square = base % modulus
    left = exponent
    while left > 0:
        if left % 2 == 1:
            worth = worth * square % modulus
        square = square * square % modulus
        left = left // 2
    return worth
