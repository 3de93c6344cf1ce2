import unittest
from random import Random

from benches import TALK, WIDE, do, journal_by_hand, random_deed, redone
from crewclocks.bench import Bench
from crewclocks.desk import Desk
from crewclocks.errors import (
    BadEdit, BadJournal, BadLine, BadMoment, BadNumber, BadWords, CrewError, Leans, NoName, NoSaying, NothingToRedo, NothingToUndo, NotFit, NoTrial, Wide)
from crewclocks.fitting import fits
from crewclocks.journals import journal, read_journal
from crewclocks.runs import run, why
from crewclocks.skies import Sky
from helpers import Raises, no_fractions, worth
from oracle import random_skies, random_talks
from test_journals import DEEDS, HEAD, HEARD, NO_FORMS

SKIES = random_skies(121, 40) + random_talks(122, 20)
ASKED = ("ships", "book", "placed", "undo", "redo")


def row_by_hand(row):
    """A row of a log, its fractions written by Python's."""
    return " ".join(str(worth(part)) if isinstance(part, tuple) else part for part in row)


class Begins(Raises, unittest.TestCase):
    def test_with_the_bench_of_its_journal(self):
        for text in (HEAD, HEAD + "\ngather\nunsay 0", "\n".join([HEAD] + [line for line, _ in DEEDS])):
            desk = Desk(text)
            self.assertIs(type(desk.bench), Bench)
            self.assertEqual(desk.bench, read_journal(text))
            self.assertEqual(journal(Desk(text=text).bench), text)

    def test_what_is_no_journal(self):
        for value in no_fractions() + ["bench", "bench\nsky\ngather", HEAD + "\n", HEAD + "\ngather\nundo", TALK, HEAD + "\nunsay 0", Bench(TALK)]:
            with self.assertRaises(BadJournal) as expected:
                read_journal(value)
            self.assert_number(BadJournal, expected.exception.value, Desk, value)


class Deeds(Raises, unittest.TestCase):
    def test_each_deed(self):
        desk, bench = Desk(HEAD), Bench(TALK)
        for line, deed in DEEDS:
            self.assertEqual(desk.say(line), "ok")
            do(bench, deed)
            self.assertEqual((desk.bench, desk.bench.sky, desk.bench.book), (bench, bench.sky, bench.book))
        for line, call in (("undo", bench.undo), ("undo", bench.undo), ("redo", bench.redo)):
            self.assertEqual(desk.say(line=line), "ok")
            call()
            self.assertEqual((desk.bench, desk.bench.done), (bench, bench.done))
        self.assertEqual(desk.say("strike 1"), "ok")
        bench.strike(1)
        self.assertEqual(desk.bench, bench)
        self.assertRaises(NothingToRedo, desk.say, "redo")

    def test_random_deeds(self):
        chance = Random(123)
        for text in SKIES[::2]:
            desk, deeds = Desk("bench\n" + text), []
            for _ in range(12):
                deed = random_deed(chance, desk.bench.sky, desk.bench.book)
                line = journal_by_hand(text, [deed]).rsplit("\n", 1)[1]
                if redone(text, deeds + [deed])[1] is None:
                    deeds.append(deed)
                    self.assertEqual(desk.say(line), "ok")
                else:
                    self.assertRaises(CrewError, desk.say, line)
                self.assertEqual(journal(desk.bench), journal_by_hand(text, deeds))

    def test_the_bench_is_the_very_one(self):
        desk = Desk(HEAD)
        bench = desk.bench
        desk.say("gather")
        self.assertIs(desk.bench, bench)
        self.assertEqual(bench.done, 1)
        bench.undo()
        self.assertEqual(desk.say("book"), "none")
        with bench.trial():
            desk.say("redo")
            self.assertEqual(desk.say("book"), "heard b 1 left a 1 1")
        self.assertEqual(desk.say("book"), "none")
        self.assertRaises(NoTrial, bench.keep)


class Answers(Raises, unittest.TestCase):
    def test_ships(self):
        for text in SKIES:
            self.assertEqual(Desk("bench\n" + text).say("ships").split(" "), list(Sky(text).names))
        self.assertEqual(Desk("bench\nsky\nship x 0 0 1").say("ships"), "x")

    def test_book(self):
        desk = Desk(HEAD)
        self.assertEqual(desk.say("book"), "none")
        desk.say("say " + HEARD)
        self.assertEqual(desk.say("book"), HEARD)
        desk.say("say passed a 1/2 b 0 3/2")
        self.assertEqual(desk.say("book"), HEARD + "; passed a 1/2 b 0 3/2")
        turns = Desk("bench\nsky\nship felt 0 0 1\nfly 1\nturn 2\nturn 3\nship heard 0 0 2\nfly 5/2\nturn 1/2")
        self.assertEqual(turns.say("book"), "none")
        turns.say("gather")
        self.assertEqual(turns.say("book"), "passed felt 0 heard 0 2; felt felt 1 6; felt heard 5/2 1/2")
        self.assertEqual(turns.say("book").split("; "), turns.bench.book.text.split("\n")[3:])

    def test_logs(self):
        kinds = set()
        for text in SKIES:
            desk = Desk("bench\n" + text)
            for name, _, _, log in run(Sky(text)):
                self.assertEqual(desk.say("log " + name), "; ".join(row_by_hand(row) for row in log) or "none")
                kinds.update(row[1] for row in log)
        self.assertEqual(kinds, {"heard", "passed", "felt", "sent"})

    def test_rows_of_each_kind(self):
        text = "bench\nsky\nship a 0 0 1\nfly 1\nflash p\nturn 3/2\nfly 2\nship b 0 0 2\nfly 3\nship c 9 9 1"
        desk = Desk(text)
        self.assertEqual(desk.say("log a"), "0 passed b 2; 1 sent p; 1 felt 3/2")
        self.assertEqual(desk.say("log b"), "0 passed a 1/2; 2 heard left a p 3/4")
        self.assertEqual(desk.say("log c"), "none")

    def test_why(self):
        words = set()
        for text in SKIES:
            desk = Desk("bench\n" + text)
            for name in Sky(text).names:
                self.assertEqual(desk.say("why " + name), " ".join(why(Sky(text), name)))
                words.add(desk.say("why " + name).split(" ")[0])
        self.assertEqual(words, {"done", "unsent", "passed", "stuck"})
        desk = Desk(HEAD)
        self.assertEqual([desk.say(line) for line in ("why b", "alter set b 0 until left ho", "why b", "alter add b 1 flash ho", "why b")],
                         ["done", "ok", "unsent ho", "ok", "stuck b"])

    def test_placed(self):
        desk = Desk(HEAD)
        self.assertEqual([desk.say(line) for line in ("placed", "gather", "placed", "say " + HEARD, "placed")], ["placing", "ok", "placing", "ok", "short v"])
        desk.say("unsay 1")
        desk.say("say passed a 0 b 0 2")
        self.assertEqual((desk.say("placed"), fits(desk.bench.book)[0]), ("colours",) * 2)
        other = Desk(HEAD + "\nsay passed a 0 b 0 2\nsay heard a 5 right b 2 1/2")
        self.assertEqual((other.say("placed"), fits(other.bench.book)[:2]), ("short u", ("short", "u")))

    def test_asked(self):
        desk = Desk(HEAD + "\ngather")
        for line, word in (("asked a 0 b 0", "ahead"), ("asked b 0 a 0", "not"), ("asked a 1/2 b 5/3", "ahead"), ("asked a 0 a 1/9", "ahead"), ("asked b 0 b 0", "not")):
            self.assertEqual(desk.say(line), word)

    def test_nothing_is_changed_by_asking(self):
        desk = Desk(HEAD + "\ngather")
        desk.say("undo")
        for line in ("ships", "book", "log a", "why a", "placed", "asked a 0 b 0") * 2:
            self.assertEqual(desk.say(line), desk.say(line))
        self.assertEqual(journal(desk.bench), HEAD)
        desk.say("redo")


class Refused(Raises, unittest.TestCase):
    def passed_on(self, desk, kind, value, line):
        """That this line raises this error with this value, and changes nothing."""
        before = journal(desk.bench), desk.bench.sky, desk.bench.book
        with self.assertRaises(kind) as caught:
            desk.say(line)
        self.assertIs(type(caught.exception), kind)
        self.assertEqual(caught.exception.value, value)
        self.assertIs(type(caught.exception.value), type(value))
        self.assertEqual((journal(desk.bench), desk.bench.sky, desk.bench.book), before)

    def test_errors_of_the_bench(self):
        desk = Desk(HEAD + "\ngather\nunsay 0")
        for line, kind, value in (
                ("alter set a 0 fly 0", BadEdit, ("set", "a", 0, "fly 0")), ("alter set a 9 fly 1", BadEdit, ("set", "a", 9, "fly 1")),
                ("alter set a 0 x", BadEdit, ("set", "a", 0, "x")), ("alter add ? -1 some words more", BadEdit, ("add", "?", -1, "some words more")), ("alter drop c 0", BadEdit, ("drop", "c", 0)),
                ("alter drop a -7", BadEdit, ("drop", "a", -7)), ("say x", BadLine, "x"), ("say felt a 1 2", BadLine, "felt a 1 2"),
                ("say heard b 3 left b 1 1", BadLine, "heard b 3 left b 1 1"), ("unsay 0", NoSaying, 0), ("unsay -1", NoSaying, -1), ("strike 2", BadNumber, 2),
                ("strike -1", BadNumber, -1), ("strike 0", Leans, 1), ("redo", NothingToRedo, None), ("log c", NoName, "c"), ("log A", NoName, "A"),
                ("log 0", NoName, "0"), ("why c", NoName, "c"), ("why ??", NoName, "??")):
            self.passed_on(desk, kind, value, line)
        self.passed_on(Desk(HEAD), NothingToUndo, None, "undo")
        self.passed_on(Desk("bench\n" + WIDE), Wide, 46, "gather")

    def test_errors_of_asking(self):
        desk = Desk(HEAD)
        for line, value in (("asked c 0 b 0", ("c", (0, 1))), ("asked a 0 c 1/2", ("c", (1, 2))), ("asked a -1 b 0", ("a", (-1, 1))),
                            ("asked a 0 b -1/2", ("b", (-1, 2))), ("asked A 0 c 0", ("A", (0, 1))), ("asked 1 2 3 4", ("1", (2, 1)))):
            self.passed_on(desk, BadMoment, value, line)
        desk.say("gather")
        desk.say("say " + HEARD)
        for line in ("asked a 0 b 0", "asked c 0 b -1"):
            self.passed_on(desk, NotFit, fits(desk.bench.book), line)

    def no_words(self, value):
        for desk in (Desk(HEAD), Desk(HEAD + "\ngather\nsay " + HEARD)):
            before = journal(desk.bench)
            self.assert_told(BadWords, value, desk.say, value)
            self.assertEqual(journal(desk.bench), before)

    def test_what_is_no_string(self):
        for value in no_fractions() + [["gather"], ("gather",), b"gather", Bench(TALK), CrewError("gather")]:
            self.no_words(value)

    def test_line_feeds(self):
        for line in ("gather", "undo", "ships", "book", "log a", "why a", "placed", "asked a 0 b 0", "strike 0", "say " + HEARD, "alter drop a 0", "unsay 0"):
            for value in (line + "\n", "\n" + line, line + "\n" + line, line.replace(" ", "\n", 1) if " " in line else line + "\n\n"):
                self.no_words(value)
        self.no_words("\n")

    def test_lines_of_no_form(self):
        forms = ASKED + ("strike 0", "log a", "why a", "asked a 0 b 0")
        for line in NO_FORMS:
            if line not in forms:
                self.no_words(line)
        for line in forms:
            for value in (line + " ", " " + line, line + " 1", line.capitalize(), line.replace(" ", "  ") if " " in line else line + "  "):
                self.no_words(value)
        for line in ("strike", "strike a", "strike 00", "strike -0", "strike +0", "strike 0/1", "strike 1/2", "strike 0 0", "log", "log a b", "why", "why a b",
                     "asked", "asked a", "asked a 0", "asked a 0 b", "asked a x b 0", "asked a 0 b x", "asked a 0 b 2/4", "asked a 1/1 b 0", "asked a 0.5 b 0",
                     "asked a 00 b 0", "asked a -0 b 0", "asked a 0 b 0 0", "asked a b 0 0", "asked a 1/0 b 0", "keep", "trial", "copy", "elder 0", "journal", "run",
                     "undo undo", "ships a", "placed u", "book a"):
            self.no_words(line)


if __name__ == "__main__":
    unittest.main()
