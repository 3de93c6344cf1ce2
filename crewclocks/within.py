"""What flights come to whose paces are bounded, how long they take, and when a lease has surely ended.

Where most is the bound, paces are from 1 / most to most. Pieces are a tuple of (pace, time).
"""

from crewclocks.errors import BadFlight, BadMost, BadTime, Beyond
from crewclocks.events import check_event, flown, growth, is_ahead
from crewclocks.exact import ONE, ZERO, added, divided, inverse, is_above_zero, is_fraction, is_less, is_same
from crewclocks.exact import is_time, multiplied, subtracted
from crewclocks.flashes import heard
from crewclocks.flights import Flight, flight_of


def check_most(value):
    if not is_fraction(value) or is_less(value, ONE):
        raise BadMost(value)


def check_own_time(value):
    if not is_time(value):
        raise BadTime(value)


def reach(one, other, most):
    """Pieces of the paces most and 1 / most that lead from one to other; or why none do."""
    check_event(one)
    check_event(other)
    check_most(most)
    u_more, v_more = growth(one, other)
    square = multiplied(most, most)
    if u_more[0] < 0 or v_more[0] < 0:
        return ("behind",)
    if is_less(multiplied(square, v_more), u_more):
        return ("beyond", "u")
    if is_less(multiplied(square, u_more), v_more):
        return ("beyond", "v")
    return ("plan", to_and_fro(u_more, v_more, most))


def to_and_fro(u_more, v_more, most):
    """Pieces, the one with the pace most first, by which u and v grow so."""
    least = inverse(most)
    quick, slow = u_more, ZERO
    # With the bound 1 both paces are one, and u and v grow alike.
    if most != ONE:
        parts = subtracted(multiplied(most, most), multiplied(least, least))
        quick = divided(subtracted(multiplied(most, u_more), multiplied(least, v_more)), parts)
        slow = divided(subtracted(multiplied(most, v_more), multiplied(least, u_more)), parts)
    return flown_pieces(((most, quick), (least, slow)))


def flown_pieces(pieces):
    """The pieces without those that take no time."""
    return tuple([(pace, time) for pace, time in pieces if time != ZERO])


def shows_reach(one, other, most, value):
    """Whether any value is right as what reach tells."""
    told = reach(one, other, most)
    if told[0] != "plan":
        return is_same(value, told)
    if not is_plan(value, most) or not leads(one, other, value[1]):
        return False
    return all([pace in (most, inverse(most)) for pace, _ in value[1]])


def is_plan(value, most):
    """Whether any value is "plan" and two pieces at most, of paces within the bound."""
    if not isinstance(value, tuple) or len(value) != 2 or value[0] != "plan":
        return False
    pieces = value[1]
    if not isinstance(pieces, tuple) or len(pieces) > 2:
        return False
    return all([is_piece(piece, most) for piece in pieces])


def is_piece(value, most):
    """Whether any value is a (pace, time) with a pace within the bound."""
    if not isinstance(value, tuple) or len(value) != 2:
        return False
    return is_above_zero(value[0]) and is_within(value[0], most) and is_above_zero(value[1])


def is_within(pace, most):
    return not is_less(pace, inverse(most)) and not is_less(most, pace)


def leads(one, other, pieces):
    """Whether the pieces lead from one to other."""
    event = one
    for pace, time in pieces:
        event = flown(event, pace, time)
    return event == other


def check_plan(one, other, most):
    """Raise Beyond with what reach tells unless this is a plan."""
    told = reach(one, other, most)
    if told[0] != "plan":
        raise Beyond(told)


def least_own(one, other, most):
    """The least own time of all flights within most from one to other."""
    check_plan(one, other, most)
    u_more, v_more = growth(one, other)
    return divided(added(u_more, v_more), added(most, inverse(most)))


def own_flight(one, other, most, own):
    """Pieces that lead from one to other and take just this own time; or what it is below, or above."""
    check_event(one)
    check_event(other)
    check_most(most)
    check_own_time(own)
    least = least_own(one, other, most)
    if is_less(own, least):
        return ("less", least)
    u_more, v_more = growth(one, other)
    square = multiplied(u_more, v_more)
    if is_less(square, multiplied(own, own)):
        return ("more", square)
    return ("plan", then_straight(u_more, v_more, most, own))


def then_straight(u_more, v_more, most, own):
    """Pieces, of the pace most first, then the straight one, by which u and v grow so in just this own time."""
    if own == ZERO:
        return ()
    room = subtracted(multiplied(u_more, v_more), multiplied(own, own))
    ends = added(divided(u_more, most), multiplied(v_more, most))
    parts = subtracted(ends, added(own, own))
    # It is 0 only where the straight one has the pace most: the second piece is all of it then.
    first = ZERO if parts == ZERO else divided(room, parts)
    rest = subtracted(own, first)
    pace = divided(subtracted(u_more, multiplied(most, first)), rest)
    return flown_pieces(((most, first), (pace, rest)))


def shows_own_flight(one, other, most, own, value):
    """Whether any value is right as what own_flight tells."""
    told = own_flight(one, other, most, own)
    if told[0] != "plan":
        return is_same(value, told)
    if not is_plan(value, most) or not leads(one, other, value[1]):
        return False
    whole = ZERO
    for _, time in value[1]:
        whole = added(whole, time)
    return whole == own


def met_first(flight, event, most):
    """(own time, place) at which the flight is first where reach tells a plan from event to; None if it never is."""
    check_event(event)
    check_most(most)
    ends = [stop[0] for stop in flight.stops[1:]] + [flight.whole]
    for (begun, place, pace), end in zip(flight.stops, ends):
        time = first_within(growth(event, place), pace, most)
        if time is not None and not is_less(subtracted(end, begun), time):
            return added(begun, time), flown(place, pace, time)
    return None


def first_within(more, pace, most):
    """The least own time at which a ship with this pace can be come to from where u and v are less by more.

    None if it never can, however long it flies on.
    """
    low, high = ZERO, None
    for worth, rate in rooms(more, pace, most):
        if rate[0] > 0:
            zero = divided((-worth[0], worth[1]), rate)
            low = zero if is_less(low, zero) else low
        elif rate[0] < 0:
            # No two of them fall: the last two, together, never do.
            high = divided(worth, (-rate[0], rate[1]))
        elif worth[0] < 0:
            return None
    if high is not None and is_less(high, low):
        return None
    return low


def rooms(more, pace, most):
    """(worth, growth by own time) of all that must not be below 0 where a plan is to lead to."""
    square = multiplied(most, most)
    (u_more, v_more), (u_rate, v_rate) = more, (pace, inverse(pace))
    return [(u_more, u_rate), (v_more, v_rate),
            (subtracted(multiplied(square, v_more), u_more), subtracted(multiplied(square, v_rate), u_rate)),
            (subtracted(multiplied(square, u_more), v_more), subtracted(multiplied(square, u_rate), v_rate))]


def lease_wait(most, hold):
    """How long a grantor must wait, at least, behind the answer, for a lease of this time to have ended."""
    check_most(most)
    check_own_time(hold)
    return multiplied(hold, multiplied(most, most))


def leases(most, hold, wait):
    """Whether a lease has ended behind this wait for all flights; if not, two for which it has not."""
    needed = lease_wait(most, hold)
    check_own_time(wait)
    if not is_less(wait, needed):
        return ("safe",)
    # The holder is where u is 1, and hears at once; the grantor comes to this u at its own time most.
    grantor = flight_of((ZERO, ZERO), inverse(most), [("fly", added(most, wait))])
    holder = flight_of((ONE, ZERO), most, [("fly", hold)])
    return ("both", grantor.text, holder.text)


def shows_leases(most, hold, wait, value):
    """Whether any value is right as what leases tells."""
    told = leases(most, hold, wait)
    if told[0] == "safe":
        return is_same(value, told)
    if not isinstance(value, tuple) or len(value) != 3 or value[0] != "both":
        return False
    grantor, holder = flight_within(value[1], most), flight_within(value[2], most)
    return grantor is not None and holder is not None and breaks(grantor, holder, hold, wait)


def flight_within(value, most):
    """The Flight of this text; None if it is no flight's, or of one that is not within most."""
    try:
        flight = Flight(value)
    except BadFlight:
        return None
    return flight if all([is_within(pace, most) for pace, _ in flight.pieces]) else None


def breaks(grantor, holder, hold, wait):
    """Whether the holder's end of the lease is not ahead of the end of the grantor's wait."""
    told = heard(holder, grantor.start)
    if told is None:
        return False
    answer = heard(grantor, holder.at(told[1]))
    if answer is None:
        return False
    ended, waited = added(told[1], hold), added(answer[1], wait)
    if is_less(holder.whole, ended) or is_less(grantor.whole, waited):
        return False
    return not is_ahead(holder.at(ended), grantor.at(waited))
