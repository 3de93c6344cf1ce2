"""Skies that are changed by one line: what stays, what is told otherwise."""

from crewclocks.courses import place_at
from crewclocks.errors import BadEdit, BadRun, BadSky, OtherNames
from crewclocks.events import is_ahead
from crewclocks.exact import is_plain_integer, is_same
from crewclocks.runs import run
from crewclocks.skies import read_line, sky_of
from crewclocks.voyages import log_of, sailed


def edited(sky, edit):
    """The sky behind this edit."""
    ships = edited_ships(sky, edit)
    if ships is None:
        raise BadEdit(edit)
    try:
        return sky_of(ships)
    except BadSky:
        raise BadEdit(edit) from None


def edited_ships(sky, edit):
    """The ships behind this edit, whether they are a sky's or not; None if it has no form of an edit."""
    if not isinstance(edit, tuple) or len(edit) not in (3, 4):
        return None
    if edit[1] not in sky.names or not is_plain_integer(edit[2]):
        return None
    at = sky.names.index(edit[1])
    name, event, pace, lines = sky.ships[at]
    script = edited_lines(lines, edit[0], edit[2], edit[3:])
    if script is None:
        return None
    return sky.ships[:at] + ((name, event, pace, script),) + sky.ships[at + 1:]


def edited_lines(lines, word, number, rest):
    """The lines behind this edit, in which rest stands behind the number; None if it is none."""
    if word == "drop":
        if rest or not 0 <= number < len(lines):
            return None
        return lines[:number] + lines[number + 1:]
    if not rest or not isinstance(rest[0], str) or read_line(rest[0]) is None:
        return None
    if word == "set" and 0 <= number < len(lines):
        return lines[:number] + rest + lines[number + 1:]
    if word == "add" and 0 <= number <= len(lines):
        return lines[:number] + rest + lines[number:]
    return None


def edge(sky, edit):
    """The event at which the ship stands when all its lines ahead of the edit are done; None if they never are."""
    edited(sky, edit)
    return edge_in(sailed(sky), edit)


def edge_in(fleet, edit):
    marks = [voyage.marks for voyage in fleet.voyages if voyage.name == edit[1]][0]
    return marks[edit[2]] if edit[2] < len(marks) else None


def kept(sky, edit):
    """For each ship (name, how many rows at the front of its log surely stay)."""
    edited(sky, edit)
    fleet = sailed(sky)
    event = edge_in(fleet, edit)
    return tuple([(voyage.name, kept_rows(fleet, voyage, event)) for voyage in fleet.voyages])


def kept_rows(fleet, voyage, event):
    """How many rows of the ship's log stand at events that are neither this one nor behind it."""
    rows = log_of(fleet, voyage)
    if event is None:
        return len(rows)
    places = [place_at(fleet.courses[voyage.name], row[0]) for row in rows]
    return len([place for place in places if place != event and not is_ahead(event, place)])


def unlike_rows(one, other):
    """(name, how many rows at the front are the same) of all ships whose logs in both runs are not the same."""
    if one.names != other.names:
        raise OtherNames((one.names, other.names))
    unlike = []
    for here, there in zip(run(one), run(other)):
        if here[3] != there[3]:
            unlike.append((here[0], shared_front(here[3], there[3])))
    return tuple(unlike)


def shared_front(rows, others):
    """How many rows at the front of both are the same."""
    many = 0
    while many < len(rows) and many < len(others) and rows[many] == others[many]:
        many += 1
    return many


def run_again(sky, edit, told):
    """What run tells of the edited sky; told is what it tells of sky."""
    changed = edited(sky, edit)
    if not is_same(told, run(sky)):
        raise BadRun(told)
    return run(changed)
