"""A bench: a sky and a book under hands."""

from crewclocks.books import Book
from crewclocks.deeds import done_or_refused, done_to, journal_text
from crewclocks.errors import BadNumber, Leans, NoName, NothingToRedo, NothingToUndo, NoTrial
from crewclocks.exact import is_plain_integer
from crewclocks.fitting import fits
from crewclocks.gaps import surely
from crewclocks.runs import run
from crewclocks.skies import Sky


class Trial:
    """A block behind which its bench is as it was when it was entered, unless it was kept.

    `kept` is None until it is, `outer` the trial around it; all else is what the bench had when it was entered.
    """

    def __init__(self, bench):
        self.bench = bench
        self.kept = None

    def __enter__(self):
        bench = self.bench
        self.sky = bench.sky
        self.book = bench.book
        self.done = bench.done
        self.deeds = bench.deeds
        self.states = bench.states
        self.undone = bench.undone
        self.outer = bench.block
        bench.block = self
        return bench

    def __exit__(self, kind, value, trace):
        bench = self.bench
        bench.block = self.outer
        if self.kept is None or kind is not None:
            bench.sky = self.sky
            bench.book = self.book
            bench.done = self.done
            bench.deeds = self.deeds
            bench.states = self.states
            bench.undone = self.undone


class Bench:
    """A bench by the text of the sky with which it begins.

    Besides what the document lists it keeps `deeds`, those that stand, as deeds.py tells them; `states`, the
    (Sky, Book) behind none, one, two .. of them; `undone`, the (deed, state behind it) that can be done again,
    the next one last; and `block`, the innermost trial in which it is, or None. The first three are tuples that
    are never changed, but others put in their place, so that trials and copies may hold them, too.
    """

    def __init__(self, text):
        sky = Sky(text)
        book = Book("\n".join(["book"] + [f"ship {name}" for name in sky.names]))
        self.block = None
        self.stand((), ((sky, book),), ())

    def stand(self, deeds, states, undone):
        """Stand where these deeds lead through these states."""
        self.deeds = deeds
        self.states = states
        self.undone = undone
        self.sky, self.book = states[-1]
        self.done = len(deeds)

    def __eq__(self, other):
        return isinstance(other, Bench) and self.journal() == other.journal()

    def journal(self):
        """The text that tells with which sky it began, and which deeds stand."""
        return journal_text(self.states[0][0], self.deeds)

    def do(self, deed):
        """Do this deed; deeds.py tells what it raises."""
        state = done_to(self.sky, self.book, deed)
        self.stand(self.deeds + (deed,), self.states + (state,), ())

    def alter(self, edit):
        """Change a line of the sky."""
        self.do(("alter", edit))

    def say(self, line):
        """Put this line behind the book's last one."""
        self.do(("say", line))

    def unsay(self, number):
        """Take the saying with this number out of the book."""
        self.do(("unsay", number))

    def gather(self):
        """Put what the logs of the sky tell in the place of the book."""
        self.do(("gather",))

    def strike(self, number):
        """Take the deed with this number out, and let all others stand."""
        if not is_plain_integer(number) or not 0 <= number < self.done:
            raise BadNumber(number)
        states = self.states[:number + 1]
        for later in range(number + 1, self.done):
            sky, book = states[-1]
            state = done_or_refused(sky, book, self.deeds[later])
            if state is None:
                raise Leans(later)
            states = states + (state,)
        self.stand(self.deeds[:number] + self.deeds[number + 1:], states, ())

    def log(self, name):
        """The log of the ship of this name in the run of the sky."""
        if name not in self.sky.names:
            raise NoName(name)
        return run(self.sky)[self.sky.names.index(name)][3]

    def elder(self, number):
        """(Sky, Book) as they were behind so many of the deeds that stand."""
        if not is_plain_integer(number) or not 0 <= number <= self.done:
            raise BadNumber(number)
        return self.states[number]

    def placed(self):
        """A placing of the book that fits, or a ring that bars it."""
        return fits(self.book)

    def asked(self, one, other):
        """Whether the moment one is ahead of other in all placings of the book."""
        return surely(self.book, one, other)

    def undo(self):
        """Take the last deed back."""
        if not self.deeds:
            raise NothingToUndo(None)
        undone = self.undone + ((self.deeds[-1], self.states[-1]),)
        self.stand(self.deeds[:-1], self.states[:-1], undone)

    def redo(self):
        """Do the deed again that was taken back last."""
        if not self.undone:
            raise NothingToRedo(None)
        deed, state = self.undone[-1]
        self.stand(self.deeds + (deed,), self.states + (state,), self.undone[:-1])

    def trial(self):
        """A block, for `with`, that leaves nothing behind unless it is kept."""
        return Trial(self)

    def keep(self):
        """Let stand what is done in the innermost block."""
        block = self.block
        if block is None:
            raise NoTrial(None)
        block.kept = True

    def tried(self, look, *, keep=False):
        """What look returns, called with the bench within a block, which is kept if keep is True."""
        block = self.trial()
        with block as held:
            told = look(held)
            if keep is True:
                block.kept = True
        return told

    def copy(self):
        """An independent bench, alike in all things, outside of all blocks."""
        twin = Bench(self.sky.text)
        twin.stand(self.deeds, self.states, self.undone)
        return twin
