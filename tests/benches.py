"""Benches worked out another way: from the first sky on, deed by deed, each time anew."""

from crewclocks.books import Book, book_of, with_saying, without_saying
from crewclocks.changes import edited
from crewclocks.errors import BadEdit, BadLine, NoSaying, Wide
from crewclocks.skies import Sky

REFUSALS = (BadEdit, BadLine, NoSaying, Wide)
TALK = "sky\nship a 0 0 1\nfly 1\nflash hi\nfly 4\nship b 2 0 1\nfly 5"
# Four ships that part at one event, and feel ten turns each: 46 lines.
WIDE = "\n".join(["sky"] + [row for name in "abcd" for row in [f"ship {name} 0 0 1"] + ["fly 1", "turn 2"] * 10])


def do(bench, deed):
    """Call the bench's method that a deed, (word, argument ..), names."""
    word, *rest = deed
    getattr(bench, word)(*rest)


def redone(text, deeds):
    """(Sky, Book) of all states from this sky's text on, deed by deed; the number of the first refused deed, or None."""
    sky = Sky(text)
    states = [(sky, Book("\n".join(["book"] + [f"ship {name}" for name in sky.names])))]
    for number, (word, *rest) in enumerate(deeds):
        sky, book = states[-1]
        try:
            if word == "alter":
                sky = edited(sky, *rest)
            elif word == "gather":
                book = book_of(sky)
            else:
                book = (with_saying if word == "say" else without_saying)(book, *rest)
        except REFUSALS:
            return states, number
        states.append((sky, book))
    return states, None


def journal_by_hand(text, deeds):
    lines = ["bench", text]
    for word, *rest in deeds:
        parts = rest[0] if word == "alter" else rest
        lines.append(" ".join([word] + [str(part) for part in parts]))
    return "\n".join(lines)


def random_deed(chance, sky, book):
    """A deed that may be refused now and then."""
    kind = chance.choice(["alter", "alter", "alter", "say", "say", "unsay", "gather"])
    if kind == "gather":
        return ("gather",)
    if kind == "unsay":
        return ("unsay", chance.randint(0, max(len(book), 1)))
    name, other = chance.choice(sky.names), chance.choice(sky.names)
    if kind == "say":
        time, sent = chance.choice(["0", "1", "2", "1/2"]), chance.choice(["0", "1", "3"])
        return ("say", chance.choice([f"heard {name} {time} {chance.choice(['left', 'right'])} {other} {sent} 1", f"passed {name} {time} {other} {sent} 2"]))
    lines = [ship for ship in sky.ships if ship[0] == name][0][3]
    word = chance.choice(["set", "add", "add", "drop"])
    number = chance.randint(0, len(lines))
    if word == "drop":
        return ("alter", (word, name, number))
    return ("alter", (word, name, number, chance.choice(["fly 1", "fly 1/2", "turn 2", "flash hi", "flash ho", "until left hi", "until right ho"])))
