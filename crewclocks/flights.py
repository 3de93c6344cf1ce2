"""Flights: a first event, a pace, then lines that fly on or turn."""

from crewclocks.courses import pace_then, place_at, time_at
from crewclocks.errors import BadFlight, BadTime
from crewclocks.events import check_event, flown, growth, seen
from crewclocks.exact import ZERO, added, divided, is_less, is_time, multiplied, subtracted
from crewclocks.exact import read_above_zero, read_fraction, written


class Flight:
    """A flight by its text.

    Besides what the document lists it keeps `steps`, the (word, fraction) of each line behind the
    first one, and `stops`, the (own time, event, pace) with which each piece begins, and, behind
    all turns, that of the end.
    """

    def __init__(self, text):
        start, pace, steps = read_flight(text)
        self.text = text
        self.start = start
        self.pace = pace
        self.steps = steps
        self.stops = stops_of(start, pace, steps)
        self.pieces = pieces_of(self.stops)
        self.whole = self.stops[-1][0]
        self.goal = self.stops[-1][1]

    def __len__(self):
        return len(self.pieces)

    def __eq__(self, other):
        return isinstance(other, Flight) and self.text == other.text

    def at(self, time):
        """The event at which it is at this own time."""
        check_time(self, time)
        return place_at(self, time)

    def pace_at(self, time):
        """The pace with which it flies on from this own time."""
        check_time(self, time)
        return pace_then(self, time)


def read_flight(text):
    """(first event, pace, steps) of a flight's text."""
    if not isinstance(text, str):
        raise BadFlight(0)
    lines = text.split("\n")
    first = read_first(lines[0])
    if first is None:
        raise BadFlight(1)
    steps = []
    for number, line in enumerate(lines[1:], start=2):
        step = read_step(line)
        if step is None:
            raise BadFlight(number)
        steps.append(step)
    return first[0], first[1], tuple(steps)


def read_first(line):
    """(first event, pace) of a flight's first line; None if it has no such form."""
    words = line.split(" ")
    if len(words) != 4 or words[0] != "flight":
        return None
    u, v, pace = read_fraction(words[1]), read_fraction(words[2]), read_above_zero(words[3])
    if u is None or v is None or pace is None:
        return None
    return (u, v), pace


def read_step(line):
    """(word, fraction) of a line that flies on or turns; None if it has no such form."""
    word, _, rest = line.partition(" ")
    worth = read_above_zero(rest)
    if word not in ("fly", "turn") or worth is None:
        return None
    return word, worth


def flight_of(start, pace, steps):
    """The Flight with this first event, this first pace and these steps."""
    lines = [f"flight {written(start[0])} {written(start[1])} {written(pace)}"]
    for word, worth in steps:
        lines.append(f"{word} {written(worth)}")
    return Flight("\n".join(lines))


def stops_of(start, pace, steps):
    """Where pieces begin and the last one ends, as Flight tells."""
    stops = []
    time, event = ZERO, start
    for word, worth in steps:
        if word == "turn":
            pace = multiplied(pace, worth)
        else:
            stops.append((time, event, pace))
            time = added(time, worth)
            event = flown(event, pace, worth)
    stops.append((time, event, pace))
    return tuple(stops)


def pieces_of(stops):
    """The (pace, time) of what is flown from stop to stop."""
    return tuple([(here[2], subtracted(there[0], here[0])) for here, there in zip(stops, stops[1:])])


def check_time(flight, time):
    if not is_time(time) or is_less(flight.whole, time):
        raise BadTime(time)


def when(flight, event):
    """The flight's own time at this event; None if it never is there."""
    check_event(event)
    time = time_at(flight, 0, event[0])
    if time is None or place_at(flight, time) != event:
        return None
    return time


def seen_flight(flight, pace):
    """The flight as an onlooker with this pace sees it."""
    # That it is a pace need not be asked here: seen raises BadPace first.
    return flight_of(seen(flight.start, pace), divided(flight.pace, pace), flight.steps)


def joined(one, other):
    """The flight one, flying on by the lines of other behind its first one."""
    return flight_of(one.start, one.pace, one.steps + other.steps)


def cut(flight, time):
    """The flights until this own time and from it on."""
    here, pace = flight.at(time), flight.pace_at(time)
    first, rest = parted(flight.steps, time)
    return flight_of(flight.start, flight.pace, first), flight_of(here, pace, rest)


def parted(steps, time):
    """The steps until this own time and behind it, without turns at that time."""
    first, rest = [], []
    left = time
    for word, worth in steps:
        if word == "turn":
            if left != ZERO:
                first.append((word, worth))
            elif rest:
                rest.append((word, worth))
        elif is_less(left, worth):
            if left != ZERO:
                first.append((word, left))
            rest.append((word, subtracted(worth, left)))
            left = ZERO
        else:
            first.append((word, worth))
            left = subtracted(left, worth)
    return first, rest


def slack(flight):
    """How much u grows times how much v grows, less the square of the whole."""
    u_more, v_more = growth(flight.start, flight.goal)
    return subtracted(multiplied(u_more, v_more), multiplied(flight.whole, flight.whole))
