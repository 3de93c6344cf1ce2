"""Deeds on a sky and a book, and the lines of journals that tell them.

A deed is ("alter", edit), ("say", line), ("unsay", number) or ("gather",).
"""

from crewclocks.books import book_of, with_saying, without_saying
from crewclocks.changes import edited
from crewclocks.errors import BadEdit, BadLine, NoSaying, Wide
from crewclocks.exact import is_integer_text

DEED_WORDS = ("alter", "say", "unsay", "gather")


def done_to(sky, book, deed):
    """(Sky, Book) behind this deed; raises what the function raises that the deed stands for."""
    if deed[0] == "alter":
        return edited(sky, deed[1]), book
    if deed[0] == "say":
        return sky, with_saying(book, deed[1])
    if deed[0] == "unsay":
        return sky, without_saying(book, deed[1])
    return sky, book_of(sky)


def done_or_refused(sky, book, deed):
    """(Sky, Book) behind this deed; None if it is refused."""
    try:
        return done_to(sky, book, deed)
    except (BadEdit, BadLine, NoSaying, Wide):
        return None


def line_of(deed):
    """The line of a journal that tells a deed that was not refused."""
    if deed[0] != "alter":
        return " ".join([str(word) for word in deed])
    return " ".join(["alter"] + [str(word) for word in deed[1]])


def journal_text(sky, deeds):
    """The journal of a bench that began with this sky, and on which these deeds stand."""
    return "\n".join(["bench", sky.text] + [line_of(deed) for deed in deeds])


def words_of(line):
    """The words of a line, parted by one blank; none if that is not how it is written."""
    words = line.split(" ")
    return [] if "" in words else words


def deed_of(line):
    """The deed that this line tells; None if it has no such form."""
    words = words_of(line)
    if not words:
        return None
    if words == ["gather"]:
        return ("gather",)
    if words[0] == "say" and len(words) > 1:
        return "say", " ".join(words[1:])
    if words[0] == "unsay" and len(words) == 2 and is_integer_text(words[1]):
        return "unsay", int(words[1])
    edit = edit_of(words)
    return None if edit is None else ("alter", edit)


def edit_of(words):
    """The edit that the words of an alter line tell; None if they have no such form."""
    if len(words) < 4 or words[0] != "alter" or not is_integer_text(words[3]):
        return None
    kind, name, number = words[1], words[2], int(words[3])
    if kind == "drop" and len(words) == 4:
        return kind, name, number
    if kind in ("set", "add") and len(words) > 4:
        return kind, name, number, " ".join(words[4:])
    return None
