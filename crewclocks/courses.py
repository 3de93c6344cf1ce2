"""Courses: where flights, and ships that fly on for ever, are; what they hear; where two of them meet.

A course has `stops`, the (own time, event, pace) with which each piece begins, and, behind all turns,
that of the end, ascending; and `whole`, all its own time, None if it flies on for ever behind its last
stop. Flights have both, too. Planes are 0 for u, 1 for v, as in events.
"""

from crewclocks.events import flown
from crewclocks.exact import ONE, ZERO, added, by_worth, divided, inverse, is_less, multiplied, subtracted


class Course:
    """The course with these stops, and with this whole."""

    def __init__(self, stops, whole):
        self.stops = stops
        self.whole = whole


def last_stop(course, time):
    """The last stop that is not later than this own time."""
    return [stop for stop in course.stops if not is_less(time, stop[0])][-1]


def place_at(course, time):
    """The event at which it is at this own time."""
    begun, event, pace = last_stop(course, time)
    return flown(event, pace, subtracted(time, begun))


def pace_then(course, time):
    """The pace with which it flies on from this own time, behind all turns."""
    return last_stop(course, time)[2]


def rate(pace, plane):
    """How quickly the coordinate grows by own time."""
    return pace if plane == 0 else inverse(pace)


def time_at(course, plane, worth):
    """Its own time at which the coordinate is worth; None if it never is."""
    # Coordinates grow all the time, so one stop alone is the one to fly on from.
    passed = [stop for stop in course.stops if not is_less(worth, stop[1][plane])]
    if not passed:
        return None
    begun, event, pace = passed[-1]
    gone = subtracted(worth, event[plane])
    time = added(begun, divided(gone, rate(pace, plane)))
    if course.whole is not None and is_less(course.whole, time):
        return None
    return time


def hearing(course, event):
    """(side, own time) at which a flash from event comes to it; None if it never does."""
    for side, kept, grown in (("left", 1, 0), ("right", 0, 1)):
        time = time_at(course, kept, event[kept])
        if time is not None and is_less(event[grown], place_at(course, time)[grown]):
            return side, time
    return None


def meetings(one, other):
    """(own time of one, own time of other) of each event at which both are; of a stretch the first event alone."""
    points = shared_points(one, other)
    rooms = [room(one, other, point) for point in points]
    found = [point for point, between in zip(points[:1], rooms) if between == ZERO]
    for k in range(len(points) - 1):
        if rooms[k] == ZERO:
            continue
        if rooms[k + 1] == ZERO:
            found.append(points[k + 1])
        elif (rooms[k][0] < 0) != (rooms[k + 1][0] < 0):
            found.append(crossing(points[k], points[k + 1], rooms[k], rooms[k + 1]))
    if one.whole is None and other.whole is None:
        found.extend(last_crossing(one, other, points[-1], rooms[-1]))
    return [(time_at(one, 0, point), time_at(other, 0, point)) for point in found]


def shared_points(one, other):
    """The u, ascending, of all stops of both where both are."""
    found = []
    for stop in by_worth([(stop[1][0],) for stop in one.stops + other.stops]):
        point = stop[0]
        if time_at(one, 0, point) is not None and time_at(other, 0, point) is not None:
            if not found or found[-1] != point:
                found.append(point)
    return found


def room(one, other, point):
    """How much v is more in one than in other where u is point."""
    return subtracted(v_where(one, point), v_where(other, point))


def v_where(course, point):
    return place_at(course, time_at(course, 0, point))[1]


def crossing(low, high, room_low, room_high):
    """The u between low and high at which the room, which grows evenly from below 0 to above or falls so, is 0."""
    part = divided(size(room_low), added(size(room_low), size(room_high)))
    return added(low, multiplied(part, subtracted(high, low)))


def size(fraction):
    return abs(fraction[0]), fraction[1]


def last_crossing(one, other, point, between):
    """The u, if any, behind the last point at which both, flying on for ever, are at one event."""
    steepness = subtracted(steep(one), steep(other))
    if between[0] * steepness[0] >= 0:
        return []
    return [added(point, divided(size(between), size(steepness)))]


def steep(course):
    """How much v grows by u behind the last stop."""
    pace = course.stops[-1][2]
    return divided(ONE, multiplied(pace, pace))
