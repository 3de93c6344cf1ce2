"""The errors of the package; each keeps its only argument as `value`."""


class CrewError(ValueError):
    """What all errors of the package are."""

    def __init__(self, value):
        self.value = value


class BadEvent(CrewError):
    """No event: a pair of fractions (u, v)."""


class BadPace(CrewError):
    """No pace: a fraction above 0."""


class NotAhead(CrewError):
    """An event of which the first one is not ahead."""


class BadFlight(CrewError):
    """The number of the line with which a text is no flight's."""


class BadTime(CrewError):
    """No own time, or none that can be asked for there."""


class BadSide(CrewError):
    """Neither "left" nor "right"."""


class BadFactor(CrewError):
    """No factor, or none that can stand there."""


class BadMany(CrewError):
    """No number of hearings."""


class BadModulus(CrewError):
    """No prime by which remainders can be told."""


class BadSky(CrewError):
    """The number of the line with which a text is no sky's."""


class NoName(CrewError):
    """No name of a ship."""


class BadNames(CrewError):
    """No names for all ships of a sky."""


class BadEdit(CrewError):
    """No edit of a sky."""


class OtherNames(CrewError):
    """The names of two skies that are not called alike."""


class BadRun(CrewError):
    """Not what is told of the run of a sky."""


class BadBook(CrewError):
    """The number of the line with which a text is no book's."""


class BadLine(CrewError):
    """No line that can stand next in a book."""


class NoSaying(CrewError):
    """No number of a saying."""


class Wide(CrewError):
    """How many lines there are, if these are too many."""


class NoPaces(CrewError):
    """A ring that bars a book by its factor."""


class NotFit(CrewError):
    """What is told of a book that has no placing."""


class BadMoment(CrewError):
    """No moment of a book."""


class BadPlane(CrewError):
    """Neither "u" nor "v"."""


class Apart(CrewError):
    """The names of two ships that do not hang together."""


class BadMost(CrewError):
    """No bound of paces: a fraction from 1 on."""


class Beyond(CrewError):
    """What is told of an event that cannot be come to."""


class BadOpen(CrewError):
    """The number of the line with which a text is no open flight's."""


class BadFactors(CrewError):
    """No factors of the six letters."""


class NoEcho(CrewError):
    """An own time whose flash has no echo."""


class BadNumber(CrewError):
    """No number of a deed."""


class Leans(CrewError):
    """The number of a deed that leans on the one to be struck."""


class NothingToUndo(CrewError):
    """None: no deed stands."""


class NothingToRedo(CrewError):
    """None: no deed was taken back."""


class NoTrial(CrewError):
    """None: there is no trial to be kept."""


class BadJournal(CrewError):
    """The number of the line with which a text is no journal."""


class BadWords(CrewError):
    """A line that a desk does not understand."""
