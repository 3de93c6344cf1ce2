"""Skies: ships with scripts, read from a text, and seen, shifted, mirrored, called otherwise."""

from crewclocks.errors import BadNames, BadSky
from crewclocks.events import check_pace, mirrored, seen, shifted
from crewclocks.exact import divided, inverse, read_above_zero, read_fraction, written
from crewclocks.words import SIDES, is_name, other_side

MOST_SHIPS = 6
MOST_LINES = 20


class Sky:
    """A sky by its text."""

    def __init__(self, text):
        ships = read_sky(text)
        self.text = text
        self.ships = ships
        self.names = tuple([ship[0] for ship in ships])

    def __len__(self):
        return len(self.ships)

    def __eq__(self, other):
        return isinstance(other, Sky) and self.text == other.text


def read_sky(text):
    """The (name, event, pace, lines) of each ship of a sky's text."""
    if not isinstance(text, str):
        raise BadSky(0)
    lines = text.split("\n")
    if lines[0] != "sky":
        raise BadSky(1)
    ships, words = [], []
    for number, line in enumerate(lines[1:], start=2):
        if not add_ship(ships, line) and not add_line(ships, words, line):
            raise BadSky(number)
    if not ships:
        raise BadSky(len(lines) + 1)
    return tuple([(name, event, pace, tuple(script)) for name, event, pace, script in ships])


def add_ship(ships, line):
    """Add the ship of this line; whether it can stand."""
    ship = read_ship(line)
    if ship is None or len(ships) == MOST_SHIPS or ship[0] in [earlier[0] for earlier in ships]:
        return False
    ships.append(ship + ([],))
    return True


def read_ship(line):
    """(name, event, pace) of a ship's line; None if it has no such form."""
    words = line.split(" ")
    if len(words) != 5 or words[0] != "ship" or not is_name(words[1]):
        return None
    u, v, pace = read_fraction(words[2]), read_fraction(words[3]), read_above_zero(words[4])
    if u is None or v is None or pace is None:
        return None
    return words[1], (u, v), pace


def add_line(ships, words, line):
    """Add this line to the last ship's script, and its word, if it sends one, to words; whether it can stand."""
    step = read_line(line)
    if step is None or not ships or len(ships[-1][3]) == MOST_LINES:
        return False
    if step[0] == "flash":
        if step[1] in words:
            return False
        words.append(step[1])
    ships[-1][3].append(line)
    return True


def read_line(line):
    """What a script's line tells, its word first; None if it has no such form."""
    word, _, rest = line.partition(" ")
    if word in ("fly", "turn"):
        worth = read_above_zero(rest)
        return None if worth is None else (word, worth)
    if word == "flash" and is_name(rest):
        return word, rest
    side, _, sought = rest.partition(" ")
    if word == "until" and side in SIDES and is_name(sought):
        return word, side, sought
    return None


def sky_of(ships):
    """The Sky of these (name, event, pace, lines)."""
    rows = ["sky"]
    for name, event, pace, lines in ships:
        rows.append(f"ship {name} {written(event[0])} {written(event[1])} {written(pace)}")
        rows.extend(lines)
    return Sky("\n".join(rows))


def seen_sky(sky, pace):
    """The sky as an onlooker with this pace sees it."""
    check_pace(pace)
    return sky_of([(name, seen(event, pace), divided(own, pace), lines) for name, event, own, lines in sky.ships])


def shifted_sky(sky, by):
    """The sky with by's u and v added to each first event."""
    return sky_of([(name, shifted(event, by), pace, lines) for name, event, pace, lines in sky.ships])


def mirrored_sky(sky):
    """The sky with what is to the right put to the left."""
    return sky_of([(name, mirrored(event), inverse(pace), [mirrored_line(line) for line in lines])
                   for name, event, pace, lines in sky.ships])


def mirrored_line(line):
    step = read_line(line)
    if step[0] == "turn":
        return f"turn {written(inverse(step[1]))}"
    if step[0] == "until":
        return f"until {other_side(step[1])} {step[2]}"
    return line


def renamed(sky, names):
    """The sky with its ships called so."""
    if not isinstance(names, tuple) or len(names) != len(sky.ships):
        raise BadNames(names)
    if not all([is_name(name) for name in names]) or len(set(names)) != len(names):
        raise BadNames(names)
    return sky_of([(name,) + ship[1:] for name, ship in zip(names, sky.ships)])
