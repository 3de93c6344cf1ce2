"""The run of a sky: what its ships fly and note, and why one of them waits for ever."""

from crewclocks.errors import NoName
from crewclocks.flights import flight_of
from crewclocks.skies import read_line
from crewclocks.voyages import log_of, sailed


def run(sky):
    """For each ship (name, text of its flight, how many lines it did, log)."""
    fleet = sailed(sky)
    return tuple([(voyage.name, flight_text(voyage), voyage.done, log_of(fleet, voyage))
                  for voyage in fleet.voyages])


def flight_text(voyage):
    return flight_of(voyage.start, voyage.first, voyage.steps).text


def why(sky, name):
    """Whether the ship did all its lines; if not, what its wait that never ends waits for."""
    if name not in sky.names:
        raise NoName(name)
    fleet = sailed(sky)
    voyage = fleet.voyages[sky.names.index(name)]
    if voyage.is_done():
        return ("done",)
    word = voyage.script[voyage.done][2]
    if word in fleet.flashes:
        return ("passed", word)
    sender = sender_of(sky, word)
    if sender is None:
        return ("unsent", word)
    return ("stuck", sender)


def sender_of(sky, word):
    """The ship that has a line which sends this word; None if none has."""
    for name, _, _, lines in sky.ships:
        if ("flash", word) in [read_line(line) for line in lines]:
            return name
    return None
