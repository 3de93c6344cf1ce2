"""Skies with the same logs, and the ships of a sky that their logs tie together."""

from crewclocks.changes import unlike_rows
from crewclocks.errors import BadPlane
from crewclocks.events import growth, seen
from crewclocks.exact import divided, is_same
from crewclocks.runs import run
from crewclocks.words import PLANES


def joint(sky):
    """The lots of ships that hear or pass one another, or come to one another by way of such pairs."""
    return lots_tied(sky, PLANES)


def level(sky, plane):
    """The lots of ships that are tied by what has kept its coordinate of this plane."""
    if plane not in PLANES:
        raise BadPlane(plane)
    return lots_tied(sky, (plane,))


def lots_tied(sky, planes):
    """The lots of ships that are tied in one of these planes, or more."""
    lots = {name: number for number, name in enumerate(sky.names)}
    for one, other, kept in ties_in(sky):
        if any([plane in planes for plane in kept]):
            low, high = min(lots[one], lots[other]), max(lots[one], lots[other])
            lots = {name: low if lots[name] == high else lots[name] for name in lots}
    # Ships come as they stand, so each lot begins where its first one does.
    named = {}
    for name in sky.names:
        named.setdefault(lots[name], []).append(name)
    return tuple([tuple(lot) for lot in named.values()])


def ties_in(sky):
    """(name, other, planes) of each row that tells that one hears or passes other: what was kept on the way."""
    found = []
    for name, _, _, log in run(sky):
        for row in log:
            if row[1] == "heard":
                found.append((name, row[3], ("v",) if row[2] == "left" else ("u",)))
            elif row[1] == "passed":
                found.append((name, row[2], PLANES))
    return found


def same_logs(one, other):
    """How each ship's beginning in one is led to that in other, if all logs are the same; or the first unlike one."""
    unlike = unlike_rows(one, other)
    if unlike:
        return ("unlike",) + unlike[0]
    return ("same", tuple([led(here, there) for here, there in zip(one.ships, other.ships)]))


def led(here, there):
    """(pace, shift) of the onlooker and of the shift that lead the first of two ships' beginnings to the second."""
    pace = divided(here[2], there[2])
    return pace, growth(seen(here[1], pace), there[1])


def shows_same_logs(one, other, value):
    """Whether any value is right as what same_logs tells."""
    return is_same(value, same_logs(one, other))
