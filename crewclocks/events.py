"""Events, (u, v), and what onlookers see of them."""

from math import isqrt

from crewclocks.errors import BadEvent, BadPace, NotAhead
from crewclocks.exact import ZERO, added, divided, is_above_zero, is_fraction, multiplied, subtracted


def is_event(value):
    if not isinstance(value, tuple) or len(value) != 2:
        return False
    return is_fraction(value[0]) and is_fraction(value[1])


def check_event(value):
    if not is_event(value):
        raise BadEvent(value)


def check_pace(value):
    if not is_above_zero(value):
        raise BadPace(value)


def growth(one, other):
    """How much u and v are more in the event other than in one."""
    return subtracted(other[0], one[0]), subtracted(other[1], one[1])


def is_ahead(one, other):
    """Whether the event one is ahead of other."""
    u_more, v_more = growth(one, other)
    return one != other and u_more[0] >= 0 and v_more[0] >= 0


def seen_later(pace, one, other):
    """How much the sum that an onlooker with this pace sees is more in other than in one."""
    u_more, v_more = growth(one, other)
    return added(divided(u_more, pace), multiplied(pace, v_more))


def paces_around(one, other):
    """A pace below and one above that for which both events, neither ahead, are at one time."""
    u_more, v_more = growth(one, other)
    # The square of the pace between is top by bottom.
    top = abs(u_more[0]) * v_more[1]
    bottom = abs(v_more[0]) * u_more[1]
    return (1, isqrt(bottom // top) + 1), (isqrt(top // bottom) + 1, 1)


def sequence(one, other):
    """Which event is ahead; if neither is, a pace that sees one first, and one that sees other first."""
    check_event(one)
    check_event(other)
    if one == other:
        return ("same",)
    if is_ahead(one, other):
        return ("ahead",)
    if is_ahead(other, one):
        return ("behind",)
    low, high = paces_around(one, other)
    if seen_later(low, one, other)[0] > 0:
        return ("either", low, high)
    return ("either", high, low)


def shows_sequence(one, other, value):
    """Whether value is right as what sequence tells of both events."""
    told = sequence(one, other)
    if told[0] != "either":
        return value == told
    if not isinstance(value, tuple) or len(value) != 3:
        return False
    word, first, second = value
    if word != "either" or not is_above_zero(first) or not is_above_zero(second):
        return False
    return seen_later(first, one, other)[0] > 0 and seen_later(second, one, other)[0] < 0


def seen(event, pace):
    """The event as an onlooker with this pace sees it."""
    check_event(event)
    check_pace(pace)
    return divided(event[0], pace), multiplied(pace, event[1])


def shifted(event, by):
    """The event with by's u and v added."""
    check_event(event)
    check_event(by)
    return added(event[0], by[0]), added(event[1], by[1])


def mirrored(event):
    """The event with what is to the right put to the left."""
    check_event(event)
    return event[1], event[0]


def own_square(one, other):
    """What u is more in other, times what v is more: alike for all onlookers."""
    check_event(one)
    check_event(other)
    if not is_ahead(one, other):
        raise NotAhead(other)
    u_more, v_more = growth(one, other)
    return multiplied(u_more, v_more)


def together(pace, one, other):
    """Whether both events are at one time for an onlooker with this pace."""
    check_pace(pace)
    check_event(one)
    check_event(other)
    return seen_later(pace, one, other) == ZERO


def flown(event, pace, time):
    """The event to which a ship with this pace gets from event in this own time."""
    return added(event[0], multiplied(pace, time)), added(event[1], divided(time, pace))
