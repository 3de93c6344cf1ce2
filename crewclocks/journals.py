"""Journals: benches as texts, and read back."""

from crewclocks.bench import Bench
from crewclocks.deeds import DEED_WORDS, deed_of
from crewclocks.errors import BadEdit, BadJournal, BadLine, BadSky, NoSaying, Wide


def journal(bench):
    """The text that tells with which sky the bench began, and which deeds stand."""
    return bench.journal()


def read_journal(text):
    """The bench of this journal."""
    if not isinstance(text, str):
        raise BadJournal(0)
    lines = text.split("\n")
    if lines[0] != "bench":
        raise BadJournal(1)
    end = 1
    while end < len(lines) and lines[end].split(" ")[0] not in DEED_WORDS:
        end += 1
    bench = begun(lines[1:end])
    for number, line in enumerate(lines[end:], start=end + 1):
        if not is_done(bench, line):
            raise BadJournal(number)
    return bench


def begun(lines):
    """The bench that begins with the sky of these lines, which stand behind a journal's first one."""
    try:
        return Bench("\n".join(lines))
    except BadSky as error:
        raise BadJournal(error.value + 1) from None


def is_done(bench, line):
    """Do the deed that this line tells; whether it tells one that is not refused."""
    deed = deed_of(line)
    if deed is None:
        return False
    try:
        bench.do(deed)
    except (BadEdit, BadLine, NoSaying, Wide):
        return False
    return True
