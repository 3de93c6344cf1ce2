import unittest
from random import Random

from benches import REFUSALS, TALK, WIDE, do, journal_by_hand, random_deed, redone
from crewclocks.bench import Bench
from crewclocks.books import Book
from crewclocks.errors import BadJournal, BadSky
from crewclocks.journals import journal, read_journal
from crewclocks.skies import Sky
from helpers import Raises, no_fractions
from oracle import random_skies

HEAD = "bench\n" + TALK
# Behind the lines of the bench and of the sky.
NEXT = HEAD.count("\n") + 2
HEARD = "heard b 3 left a 1 1"
SKIES = random_skies(111, 25, most=5) + [TALK] * 5
DEEDS = [
    ("alter set b 0 fly 1/2", ("alter", ("set", "b", 0, "fly 1/2"))), ("alter add a 3 turn 2", ("alter", ("add", "a", 3, "turn 2"))),
    ("alter add b 1 until left hi", ("alter", ("add", "b", 1, "until left hi"))), ("alter drop a 0", ("alter", ("drop", "a", 0))),
    ("say " + HEARD, ("say", HEARD)), ("say passed a 0 b 1/2 3", ("say", "passed a 0 b 1/2 3")), ("gather", ("gather",)), ("unsay 0", ("unsay", 0))]
NO_FORMS = [
    "", " ", "undo", "redo", "strike 0", "ships", "book", "log a", "why a", "placed", "asked a 0 b 0", "bench", "sky", "ship c 0 0 1", "fly 1", "gathered",
    "Gather", "gather ", " gather", "gather 1", "gather  ", "say", "say ", "say  " + HEARD, "say " + HEARD + " ", " say " + HEARD, "say heard  b 3 left a 1 1",
    "unsay", "unsay ", "unsay 0 ", "unsay  0", "unsay a", "unsay +0", "unsay 00", "unsay -0", "unsay 0.0", "unsay 0/1", "unsay 0 0", "unsay (0, 1)", "unsay True",
    "unsay 0_0", "unsay --1", "alter", "alter set", "alter drop", "alter drop a", "alter drop a ", "alter drop a 0 ", "alter drop a 0 fly 1", "alter drop  a 0",
    "alter drop a  0", "alter drop a 00", "alter drop a +0", "alter drop a x", "alter drop 0 a", "alter set a", "alter set a 0", "alter set a 0 ",
    "alter set a 0 fly  1", "alter set a 0 fly 1 ", "alter set a  0 fly 1", "alter set a 01 fly 1", "alter set a -0 fly 1", "alter set a b fly 1", "alter add a 0",
    "alter put a 0 fly 1", "alter Set a 0 fly 1", "Alter set a 0 fly 1", "alter set a fly 1", "alter a 0", "set a 0 fly 1", "drop a 0", "alter drop a 1/1"]
REFUSED = [
    "say x", "say heard b 3 left b 1 1", "say felt a 1 2", "say passed a 0 c 0 1", "say " + HEARD + " 1", "say say " + HEARD, "unsay 0", "unsay -1", "unsay 99",
    "unsay -99999999999", "alter set c 0 fly 1", "alter set a 3 fly 1", "alter set a -1 fly 1", "alter set a 0 fly 0", "alter set a 0 flash hi", "alter set a 0 x",
    "alter add a 4 fly 1", "alter add A 0 fly 1", "alter add a 0 fly 1 1", "alter drop a 3", "alter drop ab 0", "alter drop ? 0", "alter drop a -1", "alter add a,b 0 fly 1"]


class Journal(Raises, unittest.TestCase):
    def test_each_deeds_line(self):
        bench, lines = Bench(TALK), []
        self.assertEqual(journal(bench), HEAD)
        for line, deed in DEEDS:
            self.assertIsNone(do(bench, deed))
            lines.append(line)
            self.assertEqual(journal(bench), "\n".join([HEAD] + lines))
        self.assertEqual(journal(bench=bench), journal(bench))

    def test_what_was_undone_or_struck_does_not_stand(self):
        bench = Bench(TALK)
        for _, deed in DEEDS:
            do(bench, deed)
        bench.undo()
        bench.strike(1)
        lines = [line for line, _ in DEEDS]
        self.assertEqual(journal(bench).split("\n")[NEXT - 1:], lines[:1] + lines[2:7])
        with bench.trial():
            bench.undo()
            self.assertEqual(journal(bench).split("\n")[NEXT - 1:], lines[:1] + lines[2:6])
        self.assertEqual(journal(bench).split("\n")[NEXT - 1:], lines[:1] + lines[2:7])

    def test_the_sky_with_which_it_began(self):
        bench = Bench(TALK)
        bench.alter(("drop", "a", 0))
        self.assertEqual(journal(bench), HEAD + "\nalter drop a 0")
        self.assertNotEqual(bench.sky, Sky(TALK))

    def test_read_back_equal(self):
        chance = Random(112)
        for text in SKIES:
            bench, deeds = Bench(text), []
            for _ in range(25):
                deed = random_deed(chance, bench.sky, bench.book)
                try:
                    do(bench, deed)
                except REFUSALS:
                    continue
                deeds.append(deed)
            told = journal(bench)
            self.assertEqual(told, journal_by_hand(text, deeds))
            again = read_journal(told)
            self.assertEqual((type(again), again, journal(again)), (Bench, bench, told))
            self.assertEqual([again.elder(number) for number in range(again.done + 1)], redone(text, deeds)[0])
            self.assertEqual((again.sky, again.book, again.done), (bench.sky, bench.book, bench.done))


class Read(Raises, unittest.TestCase):
    def test_each_form(self):
        bench = Bench(TALK)
        for number, (_, deed) in enumerate(DEEDS):
            do(bench, deed)
            found = read_journal("\n".join([HEAD] + [line for line, _ in DEEDS[:number + 1]]))
            self.assertEqual((found.sky, found.book, found.done, found), (bench.sky, bench.book, number + 1, bench))
        self.assertEqual(read_journal(text=HEAD), Bench(TALK))

    def test_two_are_independent(self):
        one, other = read_journal(HEAD), read_journal(HEAD)
        one.gather()
        self.assertEqual((one.done, other.done), (1, 0))
        other.gather()
        other.undo()
        self.assertEqual(journal(other), HEAD)

    def test_what_is_no_string(self):
        for value in no_fractions() + [HEAD.split("\n"), (HEAD,), HEAD.encode(), Bench(TALK), Sky(TALK)]:
            if not isinstance(value, str):
                self.assert_number(BadJournal, 0, read_journal, value)

    def test_first_lines(self):
        for line in ("", " ", "Bench", "bench ", " bench", "bench sky", "sky", "journal", "book", "\tbench"):
            self.assert_number(BadJournal, 1, read_journal, line)
            self.assert_number(BadJournal, 1, read_journal, line + "\n" + TALK)
            self.assert_number(BadJournal, 1, read_journal, line + "\nnothing\nundo")
        self.assert_number(BadJournal, 1, read_journal, TALK)

    def test_lines_that_sky_refuses(self):
        for text in ("", "sky", "sky\n", "Sky", "sky\nfly 1", "sky\nship a 0 0 1\nfly 0", "sky\nship a 0 0 1\n", "sky\nship a 0 0 1\nship a 0 0 1", TALK + "\n",
                     TALK + "\nundo", TALK + "\nflash hi", "sky\nship a 0 0 0", TALK + "\nsaying x", TALK + "\nstrike 0", TALK + "\n gather", TALK + "\nGather"):
            with self.assertRaises(BadSky) as expected:
                Sky(text)
            number = expected.exception.value + 1
            self.assert_number(BadJournal, number, read_journal, "bench\n" + text)
            self.assert_number(BadJournal, number, read_journal, "bench\n" + text + "\ngather\nundo\nalter")

    def test_a_sky_without_a_ship(self):
        self.assert_number(BadJournal, 3, read_journal, "bench\nsky\ngather")
        self.assert_number(BadJournal, 3, read_journal, "bench\nsky")
        self.assert_number(BadJournal, 3, read_journal, "bench\nsky\nsay")
        self.assert_number(BadJournal, 2, read_journal, "bench")
        self.assert_number(BadJournal, 2, read_journal, "bench\ngather")
        self.assert_number(BadJournal, 2, read_journal, "bench\nalter set a 0 fly 1\nsky\nship a 0 0 1")

    def test_lines_of_no_form(self):
        for line in NO_FORMS:
            # As the first line that is no sky's, or behind such a one.
            if line.split(" ")[0] in ("alter", "say", "unsay", "gather"):
                self.assert_number(BadJournal, NEXT, read_journal, HEAD + "\n" + line)
            self.assert_number(BadJournal, NEXT + 1, read_journal, HEAD + "\ngather\n" + line)
            self.assert_number(BadJournal, NEXT + 2, read_journal, HEAD + "\ngather\nunsay 0\n" + line + "\ngather\nundo")

    def test_deeds_that_are_refused(self):
        for line in REFUSED:
            self.assert_number(BadJournal, NEXT, read_journal, HEAD + "\n" + line)
            self.assert_number(BadJournal, NEXT + 2, read_journal, HEAD + "\ngather\nunsay 0\n" + line + "\nsay x")
        self.assert_number(BadJournal, WIDE.count("\n") + 3, read_journal, "bench\n" + WIDE + "\ngather")
        lines = [HEAD] + ["say " + HEARD] * 40
        self.assertEqual(len(read_journal("\n".join(lines)).book), 40)
        self.assert_number(BadJournal, NEXT + 40, read_journal, "\n".join(lines + ["say " + HEARD]))

    def test_line_feeds_at_the_end(self):
        for text in (HEAD, HEAD + "\ngather"):
            self.assert_number(BadJournal, text.count("\n") + 2, read_journal, text + "\n")
            self.assert_number(BadJournal, text.count("\n") + 2, read_journal, text + "\n\n")

    def test_the_sky_ends_ahead_of_the_first_deed(self):
        text = "bench\nsky\nship gather 0 0 1\nflash say\nuntil left alter\nship unsay 0 0 1\ngather\nunsay 0"
        bench = read_journal(text)
        self.assertEqual((bench.sky.names, bench.done, bench.book), (("gather", "unsay"), 2, Book("book\nship gather\nship unsay")))
        self.assertEqual(journal(bench), text)


if __name__ == "__main__":
    unittest.main()
