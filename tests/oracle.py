"""Runs of skies worked out another way: by Python's fractions, in the sequence in which an onlooker sees them."""

from fractions import Fraction
from random import Random

from helpers import pair

SIDES = ("left", "right")


class Mover:
    """A ship of a sky's text, line by line; times, coordinates and paces are Fractions."""

    def __init__(self, line):
        _, self.name, u, v, pace = line.split(" ")
        self.u, self.v, self.pace, self.time = Fraction(u), Fraction(v), Fraction(pace), Fraction(0)
        self.begin = (self.u, self.v, self.pace)
        self.lines, self.done, self.flight, self.own, self.spans = [], 0, [], [], []
        self.marks = [(self.u, self.v)]

    def fly(self, time):
        self.spans.append((self.time, self.u, self.v, self.pace, time))
        self.u, self.v, self.time = self.u + self.pace * time, self.v + time / self.pace, self.time + time
        self.flight.append(f"fly {time}")

    def wait(self, side, flash):
        """How long it takes until the flash comes from this side; None if it never does."""
        if flash is None or flash[0] == self.name:
            return None
        _, u, v, _ = flash
        time = (v - self.v) * self.pace if side == "left" else (u - self.u) / self.pace
        if time <= 0:
            return None
        there = self.u + self.pace * time > u if side == "left" else self.v + time / self.pace > v
        return time if there else None

    def next_event(self, flashes):
        """The event at which its next line would be done; None if it cannot be."""
        words = self.lines[self.done].split(" ")
        if words[0] in ("turn", "flash"):
            return self.u, self.v
        time = Fraction(words[1]) if words[0] == "fly" else self.wait(words[1], flashes.get(words[2]))
        return None if time is None else (self.u + self.pace * time, self.v + time / self.pace)

    def step(self, flashes):
        words = self.lines[self.done].split(" ")
        if words[0] == "turn":
            self.pace *= Fraction(words[1])
            self.flight.append(" ".join(words))
            self.own.append((self.time, "felt", Fraction(words[1])))
        elif words[0] == "flash":
            flashes[words[1]] = (self.name, self.u, self.v, self.time)
            self.own.append((self.time, "sent", words[1]))
        else:
            self.fly(Fraction(words[1]) if words[0] == "fly" else self.wait(words[1], flashes[words[2]]))
        self.done += 1
        self.marks.append((self.u, self.v))

    def finish(self):
        rest = Fraction(0) if self.done == len(self.lines) else None
        self.spans.append((self.time, self.u, self.v, self.pace, rest))

    def span_at(self, time):
        return [span for span in self.spans if span[0] <= time][-1]

    def pace_at(self, time):
        return self.span_at(time)[3]

    def at(self, time):
        begun, u, v, pace, _ = self.span_at(time)
        return u + pace * (time - begun), v + (time - begun) / pace

    def hears(self, u, v):
        """All (side, own time) at which a flash from (u, v) comes to it."""
        found = set()
        for begun, here_u, here_v, pace, time in self.spans:
            gone = (v - here_v) * pace
            if gone >= 0 and (time is None or gone <= time) and here_u + pace * gone > u:
                found.add(("left", begun + gone))
            gone = (u - here_u) / pace
            if gone >= 0 and (time is None or gone <= time) and here_v + gone / pace > v:
                found.add(("right", begun + gone))
        return found

    def time_where(self, u):
        for begun, here_u, _, pace, time in self.spans:
            gone = (u - here_u) / pace
            if gone >= 0 and (time is None or gone <= time):
                return begun + gone
        raise AssertionError("it never is there")


def mover_of(text):
    """A flight's text as a Mover of the oracle."""
    first, *rest = [line.split(" ") for line in text.split("\n")]
    mover = Mover(" ".join(["ship", "m"] + first[1:]))
    for word, number in rest:
        if word == "turn":
            mover.pace *= Fraction(number)
        else:
            mover.fly(Fraction(number))
    mover.finish()
    return mover


def end_of(span):
    """The u at which a span ends; None if it goes on for ever."""
    _, u, _, pace, time = span
    return None if time is None else u + pace * time


def shared_span(one, other):
    """From which u to which (None: for ever) two spans are at the same events; None if they never are."""
    _, u, v, pace, _ = one
    _, other_u, other_v, other_pace, _ = other
    low = max(u, other_u)
    ends = [end for end in (end_of(one), end_of(other)) if end is not None]
    high = min(ends) if ends else None
    if high is not None and high < low:
        return None
    room = (v + (low - u) / pace ** 2) - (other_v + (low - other_u) / other_pace ** 2)
    steep = 1 / pace ** 2 - 1 / other_pace ** 2
    if steep == 0:
        return (low, high) if room == 0 else None
    point = low - room / steep
    if point < low or (high is not None and point > high):
        return None
    return point, point


def meetings(one, other):
    """The u at which the stretches begin along which two movers are together."""
    spans = [shared_span(a, b) for a in one.spans for b in other.spans]
    spans = sorted([span for span in spans if span is not None], key=lambda span: span[0])
    found, end = [], None
    for low, high in spans:
        if not found or (end != "ever" and low > end):
            found.append(low)
            end = low
        if high is None:
            end = "ever"
        elif end != "ever":
            end = max(end, high)
    return found


def movers_of(text, look=Fraction(1)):
    """The movers of a sky's text and the flashes sent, in the sequence that an onlooker with this pace sees."""
    movers = []
    for line in text.split("\n")[1:]:
        if line.startswith("ship "):
            movers.append(Mover(line))
        else:
            movers[-1].lines.append(line)
    flashes = {}
    while True:
        ready = []
        for number, mover in enumerate(movers):
            event = mover.next_event(flashes) if mover.done < len(mover.lines) else None
            if event is not None:
                ready.append((event[0] / look + event[1] * look, number))
        if not ready:
            break
        movers[min(ready)[1]].step(flashes)
    for mover in movers:
        mover.finish()
    return movers, flashes


def rows_of(mover, movers, flashes):
    heard, passed = [], []
    for word, (name, u, v, sent) in flashes.items():
        if name != mover.name:
            sender = [other for other in movers if other.name == name][0]
            for side, time in mover.hears(u, v):
                here, there = mover.pace_at(time), sender.pace_at(sent)
                heard.append((time, "heard", side, name, word, there / here if side == "left" else here / there))
    for other in movers:
        if other is not mover:
            for u in meetings(mover, other):
                time = mover.time_where(u)
                passed.append((time, "passed", other.name, other.pace_at(other.time_where(u)) / mover.pace_at(time)))
    # Behind "heard" stands "passed", and names and words are unlike: the rows ahead of their last parts tell all.
    return sorted(sorted(heard + passed, key=lambda row: row[1:-1]) + mover.own, key=lambda row: row[0])


def told(part):
    return pair(part) if isinstance(part, Fraction) else part


def expected_run(text, look=Fraction(1)):
    movers, flashes = movers_of(text, look)
    rows = []
    for mover in movers:
        log = tuple(tuple(told(part) for part in row) for row in rows_of(mover, movers, flashes))
        u, v, pace = mover.begin
        rows.append((mover.name, "\n".join([f"flight {u} {v} {pace}"] + mover.flight), mover.done, log))
    return tuple(rows)


def random_sky(chance, ships=None, most=8, waits=True):
    """The text of a sky with few unlike numbers, so that much comes together."""
    many = ships or chance.randint(1, 6)
    words = [first + second for first in "pqrs" for second in "xyz"]
    unsent = list(words)
    chance.shuffle(unsent)
    lines = ["sky"]
    for name in "abcdef"[:many]:
        u, v = chance.randint(-3, 3), chance.randint(-3, 3)
        lines.append(f"ship {name} {u} {v} {chance.choice(['1', '1', '2', '1/2', '3/2'])}")
        for _ in range(chance.randint(0, most)):
            kind = chance.choice(["fly", "fly", "turn", "flash", "until" if waits else "fly"])
            if kind == "flash" and unsent:
                lines.append(f"flash {unsent.pop()}")
            elif kind == "turn":
                lines.append(f"turn {chance.choice(['1', '2', '1/2', '2/3', '3/2', '4'])}")
            elif kind == "until":
                lines.append(f"until {chance.choice(SIDES)} {chance.choice(words)}")
            else:
                lines.append(f"fly {chance.choice(['1', '1', '2', '3', '1/2', '4/3'])}")
    return "\n".join(lines)


def random_skies(seed, many, **named):
    chance = Random(seed)
    return [random_sky(chance, **named) for _ in range(many)]


def random_talk(chance):
    """The text of a sky in which most waits end: each is for a word sent earlier, most from the side of its sender."""
    many = chance.randint(2, 5)
    places = list(range(many))
    chance.shuffle(places)
    scripts = [[] for _ in range(many)]
    sent = []
    for word in [first + second for first in "pqrst" for second in "wxyz"][:chance.randint(3, 20)]:
        ship = chance.randrange(many)
        waits = [(other, earlier) for other, earlier in sent if other != ship]
        if waits and chance.random() < 0.8:
            other, earlier = chance.choice(waits[-3:])
            side = "left" if places[other] < places[ship] else "right"
            scripts[ship].append(f"until {side} {earlier}")
        extra = chance.choice(["", "", "fly 1", "fly 1/2", "turn 2", "turn 1/2"])
        scripts[ship].extend(([extra] if extra else []) + [f"flash {word}"])
        sent.append((ship, word))
    lines = ["sky"]
    for ship, name in enumerate("abcde"[:many]):
        lines.append(f"ship {name} {5 * places[ship]} {-5 * places[ship] + chance.randint(-1, 1)} 1")
        lines.extend(scripts[ship][:20])
    return "\n".join(lines)


def random_talks(seed, many):
    chance = Random(seed)
    return [random_talk(chance) for _ in range(many)]
