"""A desk: a bench that is worked on, and asked, by lines."""

from crewclocks.deeds import deed_of, words_of
from crewclocks.errors import BadWords
from crewclocks.exact import is_integer_text, read_fraction, written
from crewclocks.journals import read_journal
from crewclocks.runs import why


class Desk:
    """A desk by the journal of its bench."""

    def __init__(self, text):
        self.bench = read_journal(text)

    def say(self, line):
        """Do what this line tells, or answer it."""
        if not isinstance(line, str) or "\n" in line:
            raise BadWords(line)
        answer = answer_to(self.bench, line)
        if answer is None:
            raise BadWords(line)
        return answer


def answer_to(bench, line):
    """The answer to this line, which may be a deed; None if it has no form."""
    deed = deed_of(line)
    if deed is not None:
        bench.do(deed)
        return "ok"
    words = words_of(line)
    if len(words) == 1:
        return answer_to_word(bench, words[0])
    if len(words) == 2:
        return answer_to_pair(bench, words[0], words[1])
    if len(words) == 5 and words[0] == "asked":
        time, its_time = read_fraction(words[2]), read_fraction(words[4])
        if time is not None and its_time is not None:
            return bench.asked((words[1], time), (words[3], its_time))[0]
    return None


def answer_to_word(bench, word):
    """The answer to a line of one word; None if it has no form."""
    if word == "undo":
        bench.undo()
        return "ok"
    if word == "redo":
        bench.redo()
        return "ok"
    if word == "ships":
        return " ".join(bench.sky.names)
    if word == "book":
        return listed(bench.book.text.split("\n")[len(bench.book.names) + 1:])
    if word == "placed":
        told = bench.placed()
        return " ".join(told[:2]) if told[0] == "short" else told[0]
    return None


def answer_to_pair(bench, word, rest):
    """The answer to a line of two words; None if it has no form."""
    if word == "strike" and is_integer_text(rest):
        bench.strike(int(rest))
        return "ok"
    if word == "log":
        return listed([row_text(row) for row in bench.log(rest)])
    if word == "why":
        return " ".join(why(bench.sky, rest))
    return None


def row_text(row):
    """A row of a log, its parts parted by blanks."""
    return " ".join([part if isinstance(part, str) else written(part) for part in row])


def listed(rows):
    return "; ".join(rows) if rows else "none"
