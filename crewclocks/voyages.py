"""Voyages: what each ship of a sky does, flies and notes in the run of the sky."""

from crewclocks.courses import Course, hearing, meetings, pace_then
from crewclocks.events import flown
from crewclocks.exact import ZERO, added, by_worth, divided, multiplied
from crewclocks.flashes import colour
from crewclocks.flights import stops_of
from crewclocks.skies import read_line


class Voyage:
    """How far a ship has come in its script.

    `marks` are the events at which it stood when 0, 1, 2 .. of its lines were done, `own` the rows of
    its log that tell its turns and flashes, `steps` what it flew and turned, as flights have them.
    """

    def __init__(self, name, start, pace, lines):
        self.name = name
        self.start = start
        self.first = pace
        self.script = [read_line(line) for line in lines]
        self.time = ZERO
        self.event = start
        self.pace = pace
        self.done = 0
        self.marks = [start]
        self.steps = []
        self.own = []

    def is_done(self):
        return self.done == len(self.script)

    def course(self):
        """Where it is at each own time: if a wait never ends, it flies on for ever."""
        return Course(stops_of(self.start, self.first, self.steps), self.time if self.is_done() else None)


class Fleet:
    """All voyages of a run, their courses, and (name, event, own time) of each flash that was sent, by its word."""

    def __init__(self, voyages, flashes):
        self.voyages = voyages
        self.flashes = flashes
        self.courses = {voyage.name: voyage.course() for voyage in voyages}


def sailed(sky):
    """The Fleet of the sky's run."""
    voyages = [Voyage(*ship) for ship in sky.ships]
    flashes = {}
    # What is waited for lies behind what it waits for, so each ship may go on as far as it can.
    while any([sail(voyage, flashes) for voyage in voyages]):
        pass
    return Fleet(voyages, flashes)


def sail(voyage, flashes):
    """Do the ship's next lines as far as they go; whether one was done."""
    before = voyage.done
    while not voyage.is_done() and do_line(voyage, voyage.script[voyage.done], flashes):
        voyage.done += 1
        voyage.marks.append(voyage.event)
    return voyage.done > before


def do_line(voyage, step, flashes):
    """Do this line of the script, if it can be done by now; whether it was."""
    if step[0] == "fly":
        fly_on(voyage, step[1])
    elif step[0] == "turn":
        voyage.pace = multiplied(voyage.pace, step[1])
        voyage.steps.append(step)
        voyage.own.append((voyage.time, "felt", step[1]))
    elif step[0] == "flash":
        flashes[step[1]] = (voyage.name, voyage.event, voyage.time)
        voyage.own.append((voyage.time, "sent", step[1]))
    else:
        time = wait(voyage, step[1], flashes.get(step[2]))
        if time is None:
            return False
        fly_on(voyage, time)
    return True


def fly_on(voyage, time):
    voyage.steps.append(("fly", time))
    voyage.event = flown(voyage.event, voyage.pace, time)
    voyage.time = added(voyage.time, time)


def wait(voyage, side, flash):
    """How long it takes by its own clock until the flash comes from this side; None if it is not to be had."""
    # One of its own need not be barred: no flash ever comes to the ship that sent it.
    if flash is None:
        return None
    told = hearing(Course(((ZERO, voyage.event, voyage.pace),), None), flash[1])
    if told is None or told[0] != side or told[1] == ZERO:
        return None
    return told[1]


def log_of(fleet, voyage):
    """All rows of the ship's log."""
    rows = sorted(heard_rows(fleet, voyage.name)) + sorted(passed_rows(fleet, voyage.name)) + voyage.own
    return tuple(by_worth(rows))


def heard_rows(fleet, name):
    course = fleet.courses[name]
    rows = []
    for word, (sender, event, sent) in fleet.flashes.items():
        told = None if sender == name else hearing(course, event)
        if told is not None:
            side, time = told
            blink = colour(side, pace_then(fleet.courses[sender], sent), pace_then(course, time))
            rows.append((time, "heard", side, sender, word, blink))
    return rows


def passed_rows(fleet, name):
    course = fleet.courses[name]
    rows = []
    for other in fleet.voyages:
        if other.name != name:
            beside = fleet.courses[other.name]
            for time, its_time in meetings(course, beside):
                factor = divided(pace_then(beside, its_time), pace_then(course, time))
                rows.append((time, "passed", other.name, factor))
    return rows
