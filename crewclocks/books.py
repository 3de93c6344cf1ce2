"""Books of sayings: what crews say of their flights, each by its own clock."""

from crewclocks.courses import Course, pace_then, place_at, time_at
from crewclocks.errors import BadBook, BadLine, BadTime, NoName, NoSaying, Wide
from crewclocks.exact import ONE, ZERO, by_worth, is_plain_integer, is_time, multiplied, read_above_zero, read_time
from crewclocks.exact import subtracted, written
from crewclocks.flights import stops_of
from crewclocks.voyages import log_of, sailed
from crewclocks.words import SIDES, is_name

MOST_NAMES = 6
MOST_ROWS = 40


class Book:
    """A book by its text."""

    def __init__(self, text):
        names, felt, sayings = read_book(text)
        self.text = text
        self.names = names
        self.felt = felt
        self.sayings = sayings

    def __len__(self):
        return len(self.sayings)

    def __eq__(self, other):
        return isinstance(other, Book) and self.text == other.text


def read_book(text):
    """(names, felt, sayings) of a book's text."""
    if not isinstance(text, str):
        raise BadBook(0)
    lines = text.split("\n")
    if lines[0] != "book":
        raise BadBook(1)
    names, felt, sayings = [], [], []
    for number, line in enumerate(lines[1:], start=2):
        if not add_name(names, felt + sayings, line) and not add_row(names, felt, sayings, line):
            raise BadBook(number)
    if not names:
        raise BadBook(len(lines) + 1)
    return tuple(names), tuple(felt), tuple(sayings)


def add_name(names, rows, line):
    """Add the name of this ship line; whether it can stand behind these rows."""
    word, _, name = line.partition(" ")
    if word != "ship" or not is_name(name) or name in names or len(names) == MOST_NAMES or rows:
        return False
    names.append(name)
    return True


def add_row(names, felt, sayings, line):
    """Add what this felt, heard or passed line tells; whether it can stand."""
    if len(felt) + len(sayings) == MOST_ROWS:
        return False
    row = read_felt(names, line)
    if row is not None and row[:2] not in [earlier[:2] for earlier in felt]:
        felt.append(row)
        return True
    saying = read_saying(names, line)
    if saying is not None:
        sayings.append(saying)
        return True
    return False


def read_felt(names, line):
    """(name, time, factor) of a felt line; None if it has no such form."""
    words = line.split(" ")
    if len(words) != 4 or words[0] != "felt" or words[1] not in names:
        return None
    time, factor = read_time(words[2]), read_above_zero(words[3])
    if time is None or factor is None:
        return None
    return words[1], time, factor


def read_saying(names, line):
    """What a heard or passed line tells; None if it has no such form."""
    words = line.split(" ")
    side = ()
    if words[0] == "heard" and len(words) == 7 and words[3] in SIDES:
        side = (words[3],)
    elif words[0] != "passed" or len(words) != 6:
        return None
    name, other = words[1], words[-3]
    time, its_time, worth = read_time(words[2]), read_time(words[-2]), read_above_zero(words[-1])
    if name not in names or other not in names or name == other:
        return None
    if time is None or its_time is None or worth is None:
        return None
    return (words[0], name, time) + side + (other, its_time, worth)


def own_place(book, name, time):
    """(pace, u, v) of the ship at this own time if it began at (0, 0) with the pace 1."""
    if name not in book.names:
        raise NoName(name)
    if not is_time(time):
        raise BadTime(time)
    course = own_course(book, name)
    u, v = place_at(course, time)
    return pace_then(course, time), u, v


def own_course(book, name):
    """The course of the ship if it began at (0, 0) with the pace 1."""
    steps = []
    before = ZERO
    for time, factor in by_worth([row[1:] for row in book.felt if row[0] == name]):
        if time != before:
            steps.append(("fly", subtracted(time, before)))
            before = time
        steps.append(("turn", factor))
    return Course(stops_of((ZERO, ZERO), ONE, steps), None)


def with_saying(book, line):
    """The book with this line behind its last one."""
    if not isinstance(line, str) or read_saying(book.names, line) is None:
        raise BadLine(line)
    if len(book.felt) + len(book.sayings) == MOST_ROWS:
        raise BadLine(line)
    return Book(f"{book.text}\n{line}")


def without_saying(book, number):
    """The book without the line of the saying with this number."""
    if not is_plain_integer(number) or not 0 <= number < len(book.sayings):
        raise NoSaying(number)
    lines = book.text.split("\n")
    told = [at for at, line in enumerate(lines) if line.startswith("heard ") or line.startswith("passed ")]
    at = told[number]
    return Book("\n".join(lines[:at] + lines[at + 1:]))


def book_of(sky):
    """The book of what the logs of the sky's run tell."""
    fleet = sailed(sky)
    rows = []
    for voyage in fleet.voyages:
        rows.extend(rows_of(fleet, voyage, sky.names))
    if len(rows) > MOST_ROWS:
        raise Wide(len(rows))
    return Book("\n".join(["book"] + [f"ship {name}" for name in sky.names] + rows))


def rows_of(fleet, voyage, names):
    """The lines that tell of the ship's log; each passing stands with the one of both ships that is named first."""
    rows = []
    log = log_of(fleet, voyage)
    later = names[names.index(voyage.name) + 1:]
    noted = []
    for row in log:
        if row[1] == "heard":
            rows.append(heard_line(fleet, voyage, row))
        elif row[1] == "passed" and row[2] in later:
            rows.append(passed_line(fleet, voyage, row))
        elif row[1] == "felt" and row[0] not in noted:
            noted.append(row[0])
            rows.append(f"felt {voyage.name} {written(row[0])} {written(turned(log, row[0]))}")
    return rows


def heard_line(fleet, voyage, row):
    time, _, side, sender, word, blink = row
    sent = fleet.flashes[word][2]
    return f"heard {voyage.name} {written(time)} {side} {sender} {written(sent)} {written(blink)}"


def passed_line(fleet, voyage, row):
    time, _, other, factor = row
    event = place_at(fleet.courses[voyage.name], time)
    its_time = time_at(fleet.courses[other], 0, event[0])
    return f"passed {voyage.name} {written(time)} {other} {written(its_time)} {written(factor)}"


def turned(log, time):
    """The product of all turns at this time."""
    product = ONE
    for row in log:
        if row[1] == "felt" and row[0] == time:
            product = multiplied(product, row[2])
    return product
