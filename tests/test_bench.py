import unittest
from random import Random

from benches import REFUSALS, TALK, WIDE, do, journal_by_hand, random_deed, redone
from crewclocks.bench import Bench
from crewclocks.books import Book, book_of
from crewclocks.errors import (
    BadEdit, BadLine, BadMoment, BadNumber, BadSky, CrewError, Leans, NoName, NoSaying, NothingToRedo, NothingToUndo, NotFit, NoTrial, Wide)
from crewclocks.fitting import fits, shows_fits
from crewclocks.gaps import surely
from crewclocks.journals import journal, read_journal
from crewclocks.runs import run
from crewclocks.skies import Sky
from helpers import Raises, no_fractions, no_names
from oracle import random_skies

HEARD = "heard b 1 left a 1 1"
LATE = "heard b 3 left a 1 1"
SHORTER = ("set", "b", 0, "fly 1/2")
SKIES = [text for text in random_skies(101, 40, most=5)] + [TALK] * 10


def standing(bench):
    """All that can be asked of a bench without changing it."""
    return bench.sky, bench.book, bench.done, [bench.elder(number) for number in range(bench.done + 1)], journal(bench)


def whole(bench):
    """What it is, with all that can be undone and done again, found by a copy."""
    twin, rows = bench.copy(), [standing(bench)]
    for call in (Bench.redo, Bench.undo):
        while True:
            try:
                call(twin)
            except (NothingToRedo, NothingToUndo):
                break
            rows.append(standing(twin))
    return rows


def some_bench():
    """A bench on which three deeds stand, and two can be done again."""
    bench = Bench(TALK)
    bench.gather()
    bench.alter(SHORTER)
    bench.say(LATE)
    bench.say("passed a 0 b 0 1")
    bench.unsay(0)
    bench.undo()
    bench.undo()
    return bench


class Checks(Raises):
    def assert_stands(self, bench, text, deeds, undone=()):
        """That the bench began with this sky, that just these deeds stand, and that these can be done again, the next one last."""
        states, refused = redone(text, deeds)
        self.assertIsNone(refused)
        self.assertEqual((bench.sky, bench.book), states[-1])
        self.assertIs(type(bench.done), int)
        self.assertEqual(bench.done, len(deeds))
        self.assertEqual([bench.elder(number) for number in range(bench.done + 1)], states)
        self.assertEqual(journal(bench), journal_by_hand(text, deeds))
        twin = bench.copy()
        for k in range(len(undone)):
            twin.redo()
            self.assertEqual(journal(twin), journal_by_hand(text, list(deeds) + list(undone[::-1][:k + 1])))
        with self.assertRaises(NothingToRedo):
            twin.redo()

    def assert_refused(self, bench, kind, value, call, *args):
        """That this is refused with this value, and changes nothing."""
        before = whole(bench)
        with self.assertRaises(kind) as caught:
            call(*args)
        self.assertIs(type(caught.exception), kind)
        self.assertEqual(caught.exception.value, value)
        self.assertIs(type(caught.exception.value), type(value))
        self.assertEqual(whole(bench), before)


class Begins(Checks, unittest.TestCase):
    def test_with_the_sky_and_a_book_of_its_ships(self):
        for text in SKIES:
            bench = Bench(text)
            self.assert_stands(bench, text, [])
            self.assertEqual(bench.book, Book("\n".join(["book"] + [f"ship {name}" for name in Sky(text).names])))
            self.assertEqual((type(bench.sky), type(bench.book)), (Sky, Book))
        self.assert_stands(Bench(text=TALK), TALK, [])

    def test_what_sky_refuses(self):
        for value in no_fractions() + ["sky", "sky\nship a 0 0 1\nfly 0", "sky\n", TALK + "\n", "book\nship a", "bench\n" + TALK, [TALK], Sky(TALK)]:
            with self.assertRaises(BadSky) as expected:
                Sky(value)
            self.assert_number(BadSky, expected.exception.value, Bench, value)


class Deeds(Checks, unittest.TestCase):
    def test_the_examples_way(self):
        bench = Bench(TALK)
        self.assertIsNone(bench.gather())
        self.assertIsNone(bench.alter(SHORTER))
        self.assertIsNone(bench.say(LATE))
        deeds = [("gather",), ("alter", SHORTER), ("say", LATE)]
        self.assert_stands(bench, TALK, deeds)
        self.assertIsNone(bench.unsay(0))
        self.assert_stands(bench, TALK, deeds + [("unsay", 0)])
        self.assertIsNone(bench.strike(3))
        self.assertIsNone(bench.undo())
        self.assertIsNone(bench.redo())
        self.assert_stands(bench, TALK, deeds)

    def test_random_deeds_undone_redone_and_struck(self):
        chance, words = Random(102), {}
        for text in SKIES:
            bench, deeds, undone = Bench(text), [], []
            for _ in range(50):
                word = self.step(chance, bench, text, deeds, undone)
                words[word] = words.get(word, 0) + 1
            self.assert_stands(bench, text, deeds, undone)
        self.assertEqual(sorted(words), ["done", "leans", "redo", "refused", "strike", "undo"])
        self.assertGreater(min(words.values()), 10, words)

    def step(self, chance, bench, text, deeds, undone):
        """One random step on a bench, and on lists of deeds; a word that tells what came of it."""
        kind = chance.choice(["deed"] * 5 + ["undo", "undo", "redo", "strike"])
        if kind == "deed":
            deed = random_deed(chance, bench.sky, bench.book)
            if redone(text, deeds + [deed])[1] is not None:
                value = deed[1] if len(deed) == 2 else bench
                with self.assertRaises(REFUSALS) as caught:
                    do(bench, deed)
                self.assertTrue(type(caught.exception) is Wide or caught.exception.value is value)
                return "refused"
            do(bench, deed)
            deeds.append(deed)
            undone.clear()
            return "done"
        if kind == "strike" and deeds:
            number = chance.randrange(len(deeds))
            rest = deeds[:number] + deeds[number + 1:]
            refused = redone(text, rest)[1]
            if refused is not None:
                self.assert_number(Leans, refused + 1, bench.strike, number)
                return "leans"
            bench.strike(number)
            deeds[:] = rest
            undone.clear()
            return "strike"
        here, there, call, error = (undone, deeds, bench.redo, NothingToRedo) if kind == "redo" else (deeds, undone, bench.undo, NothingToUndo)
        if not here:
            self.assert_refused(bench, error, None, call)
        else:
            call()
            there.append(here.pop())
        return "redo" if kind == "redo" else "undo"

    def test_alter_refused(self):
        for value in no_fractions() + [("drop", "a", 9), ("set", "a", 0, "fly 0"), ("add", "c", 0, "fly 1"), ["drop", "a", 0], ("drop", "a", True),
                                       ("set", "b", 0, "flash hi"), ("set", "a", 0), ("drop", "a", -1), ("add", "a", 4, "fly 1"), ("gather",)]:
            bench = some_bench()
            self.assert_refused(bench, BadEdit, value, bench.alter, value)
            self.assert_told(BadEdit, value, bench.alter, value)
            self.assert_told(BadEdit, value, bench.alter, edit=value)

    def test_say_refused(self):
        for value in no_fractions() + ["", "heard b 1 left a 1", "heard b 1 left b 1 1", "felt a 1 2", HEARD + "\n", HEARD + " ", "passed a 0 c 0 1", [HEARD],
                                       HEARD + "\n" + HEARD, "say " + HEARD, "passed a -1 b 0 1", "passed a 0 b 0 0", "ship c"]:
            bench = some_bench()
            self.assert_refused(bench, BadLine, value, bench.say, value)
            self.assert_told(BadLine, value, bench.say, value)
            self.assert_told(BadLine, value, bench.say, line=value)

    def test_a_41st_line(self):
        bench = Bench(TALK)
        for _ in range(40):
            bench.say(HEARD)
        self.assertEqual(len(bench.book), 40)
        self.assert_refused(bench, BadLine, HEARD, bench.say, HEARD)
        bench.unsay(7)
        bench.say(LATE)
        self.assertEqual((len(bench.book), bench.done), (40, 42))

    def test_unsay_refused(self):
        for value in no_fractions() + [-1, -2, 99, True, False, "0", (0, 1), None, [0], HEARD]:
            if value not in (0, 1) or isinstance(value, bool):
                bench = some_bench()
                self.assertEqual(len(bench.book), 2)
                self.assert_refused(bench, NoSaying, value, bench.unsay, value)
                self.assert_told(NoSaying, value, bench.unsay, number=value)
        bench = Bench(TALK)
        self.assert_refused(bench, NoSaying, 0, bench.unsay, 0)

    def test_gather_refused(self):
        bench = Bench(WIDE)
        bench.say("passed a 0 b 0 1")
        bench.say("passed a 1 b 1 1")
        bench.undo()
        self.assert_refused(bench, Wide, 46, bench.gather)
        with self.assertRaises(Wide):
            book_of(Sky(WIDE))
        bench.redo()
        self.assertEqual(bench.done, 2)

    def test_a_deed_that_changes_nothing(self):
        bench = Bench(TALK)
        bench.alter(("set", "a", 0, "fly 1"))
        bench.gather()
        bench.gather()
        self.assertEqual((bench.sky, bench.done), (Sky(TALK), 3))
        self.assert_stands(bench, TALK, [("alter", ("set", "a", 0, "fly 1")), ("gather",), ("gather",)])
        bench.undo()
        bench.undo()
        bench.alter(("set", "a", 0, "fly 1"))
        self.assert_refused(bench, NothingToRedo, None, bench.redo)

    def test_gather_puts_all_else_away(self):
        bench = Bench(TALK)
        bench.say(LATE)
        bench.gather()
        self.assertEqual(bench.book, book_of(Sky(TALK)))
        bench.alter(SHORTER)
        self.assertEqual(bench.book, book_of(Sky(TALK)))
        bench.gather()
        self.assertEqual(bench.book, Book("book\nship a\nship b"))


class Undo(Checks, unittest.TestCase):
    def test_nothing(self):
        bench = Bench(TALK)
        self.assert_refused(bench, NothingToUndo, None, bench.undo)
        self.assert_refused(bench, NothingToRedo, None, bench.redo)
        bench.gather()
        self.assert_refused(bench, NothingToRedo, None, bench.redo)
        bench.undo()
        self.assert_refused(bench, NothingToUndo, None, bench.undo)
        bench.redo()
        self.assert_refused(bench, NothingToRedo, None, bench.redo)

    def test_across_several_deeds(self):
        bench, deeds = Bench(TALK), [("gather",), ("alter", SHORTER), ("say", LATE), ("unsay", 0), ("say", HEARD)]
        for deed in deeds:
            do(bench, deed)
        for number in range(5, 0, -1):
            self.assert_stands(bench, TALK, deeds[:number], deeds[number:][::-1])
            bench.undo()
        for number in range(5):
            self.assert_stands(bench, TALK, deeds[:number], deeds[number:][::-1])
            bench.redo()
        self.assert_stands(bench, TALK, deeds)

    def test_behind_a_new_deed_and_behind_a_refused_one(self):
        bench = some_bench()
        for kind, call, value in ((BadEdit, bench.alter, None), (BadLine, bench.say, ""), (NoSaying, bench.unsay, 9), (BadNumber, bench.strike, 3)):
            self.assert_refused(bench, kind, value, call, value)
        bench.redo()
        self.assertEqual(bench.book.sayings[-1][0], "passed")
        bench.say(HEARD)
        self.assert_refused(bench, NothingToRedo, None, bench.redo)
        bench.undo()
        bench.redo()
        self.assertEqual(bench.done, 5)

    def test_behind_a_strike(self):
        bench = some_bench()
        bench.strike(0)
        self.assert_refused(bench, NothingToRedo, None, bench.redo)
        self.assert_stands(bench, TALK, [("alter", SHORTER), ("say", LATE)])
        bench.undo()
        bench.redo()
        self.assert_stands(bench, TALK, [("alter", SHORTER), ("say", LATE)])


class Strike(Checks, unittest.TestCase):
    def test_each_deed(self):
        deeds = [("say", LATE), ("alter", SHORTER), ("gather",), ("say", HEARD), ("alter", ("add", "a", 0, "turn 2")), ("say", "passed a 0 b 0 1")]
        for number in range(len(deeds)):
            bench = Bench(TALK)
            for deed in deeds:
                do(bench, deed)
            self.assertIsNone(bench.strike(number))
            self.assert_stands(bench, TALK, deeds[:number] + deeds[number + 1:])

    def test_leans(self):
        deeds = [("say", HEARD), ("gather",), ("say", LATE), ("unsay", 1), ("alter", ("add", "b", 1, "flash yo")), ("alter", ("drop", "b", 1)),
                 ("alter", ("add", "b", 1, "fly 2"))]
        bench = Bench(TALK)
        for deed in deeds:
            do(bench, deed)
        # Without LATE there is no saying with the number 1, without the flash no line of b's with it.
        self.assert_refused(bench, Leans, 3, bench.strike, 2)
        self.assert_refused(bench, Leans, 5, bench.strike, 4)
        bench.strike(0)
        self.assert_stands(bench, TALK, deeds[1:])
        self.assert_refused(bench, Leans, 2, bench.strike, 0)
        self.assert_refused(bench, Leans, 2, bench.strike, 1)

    def test_the_first_one_that_leans(self):
        bench = Bench(TALK)
        for deed in [("say", HEARD), ("alter", SHORTER), ("say", LATE), ("unsay", 1), ("unsay", 0)]:
            do(bench, deed)
        # Either saying gone, unsay 1 is the first one that fails, though unsay 0 would not.
        self.assert_refused(bench, Leans, 3, bench.strike, 0)
        self.assert_refused(bench, Leans, 3, bench.strike, 2)
        bench.strike(3)
        self.assertEqual(bench.book.sayings[0][2], (3, 1))
        bench.strike(0)
        self.assertEqual((bench.done, len(bench.book)), (3, 0))

    def test_a_gathering_that_grows_too_wide(self):
        bench = Bench(WIDE)
        for number in (19, 17, 15, 13, 11, 9):
            bench.alter(("drop", "d", number))
        bench.gather()
        self.assertEqual(len(bench.book.felt) + len(bench.book), 40)
        for number in range(6):
            self.assert_refused(bench, Leans, 6, bench.strike, number)

    def test_numbers(self):
        bench = some_bench()
        for value in no_fractions() + [-1, -3, 3, 4, 99, True, False, "0", (0, 1), [0], None]:
            if isinstance(value, bool) or value not in (0, 1, 2):
                self.assert_refused(bench, BadNumber, value, bench.strike, value)
                self.assert_told(BadNumber, value, bench.strike, number=value)
        empty = Bench(TALK)
        self.assert_refused(empty, BadNumber, 0, empty.strike, 0)

    def test_to_strike_is_no_deed(self):
        bench = some_bench()
        bench.strike(1)
        self.assertEqual(bench.done, 2)
        bench.undo()
        bench.undo()
        self.assertEqual((bench.done, bench.sky), (0, Sky(TALK)))
        self.assert_refused(bench, NothingToUndo, None, bench.undo)
        bench.redo()
        bench.redo()
        self.assert_stands(bench, TALK, [("gather",), ("say", LATE)])


class Tells(Checks, unittest.TestCase):
    def test_logs(self):
        for text in SKIES:
            bench = Bench(text)
            for name, _, _, log in run(Sky(text)):
                self.assertEqual(bench.log(name), log)
        bench.alter(SHORTER)
        self.assertEqual([bench.log(name="b"), bench.log("a")], [(), (((1, 1), "sent", "hi"),)])
        for value in no_names() + ["c", "A", "ab", 0, ("a",)]:
            self.assert_told(NoName, value, bench.log, value)

    def test_elder(self):
        bench = some_bench()
        self.assertEqual(bench.elder(0), (Sky(TALK), Book("book\nship a\nship b")))
        self.assertEqual(bench.elder(1), (Sky(TALK), book_of(Sky(TALK))))
        self.assertEqual(bench.elder(number=3), (bench.sky, bench.book))
        self.assertEqual(Bench(TALK).elder(0), (Sky(TALK), Book("book\nship a\nship b")))
        for value in no_fractions() + [-1, 4, 5, True, False, "0", (0, 1), [0], None]:
            if isinstance(value, bool) or value not in (0, 1, 2, 3):
                self.assert_told(BadNumber, value, bench.elder, value)
        self.assert_told(BadNumber, 1, Bench(TALK).elder, 1)

    def test_placed_and_asked(self):
        bench, one, other = Bench(TALK), ("a", (0, 1)), ("b", (0, 1))
        self.assertEqual(bench.placed(), fits(bench.book))
        self.assertEqual(bench.asked(one, other)[0], "not")
        bench.gather()
        self.assertEqual(bench.asked(other=other, one=one), surely(bench.book, one, other))
        self.assertEqual(bench.asked(one, other)[0], "ahead")
        bench.say(LATE)
        self.assertEqual(bench.placed()[0], "short")
        self.assertIs(shows_fits(bench.book, bench.placed()), True)
        with self.assertRaises(NotFit) as caught:
            bench.asked(None, None)
        self.assertEqual(caught.exception.value, bench.placed())
        bench.undo()
        for value in no_fractions() + [("c", (0, 1)), ("a", (-1, 1)), ["a", (0, 1)]]:
            self.assert_told(BadMoment, value, bench.asked, value, None)
            self.assert_told(BadMoment, value, bench.asked, one, value)

    def test_nothing_is_changed_by_asking(self):
        bench = some_bench()
        before = whole(bench)
        for _ in range(2):
            bench.log("a")
            bench.elder(1)
            bench.placed()
            with self.assertRaises(NotFit):
                bench.asked(("a", (0, 1)), ("b", (2, 1)))
            bench.copy()
            bench.trial()
            self.assertEqual(whole(bench), before)


class Trials(Checks, unittest.TestCase):
    def test_left(self):
        bench = some_bench()
        before = whole(bench)
        with bench.trial() as held:
            self.assertIs(held, bench)
            held.say(HEARD)
            held.alter(("drop", "a", 0))
            self.assertEqual(bench.done, 5)
        self.assertEqual(whole(bench), before)

    def test_kept(self):
        bench = some_bench()
        with bench.trial() as held:
            held.say(HEARD)
            self.assertIsNone(held.keep())
            held.alter(("drop", "a", 0))
        self.assert_stands(bench, TALK, [("gather",), ("alter", SHORTER), ("say", LATE), ("say", HEARD), ("alter", ("drop", "a", 0))])
        bench.undo()
        self.assertEqual(bench.done, 4)

    def test_left_by_an_error(self):
        for keeps in (0, 1, 2):
            for error in (BadEdit(1), KeyError("x"), Leans(0), NoTrial(None)):
                bench = some_bench()
                before = whole(bench)
                with self.assertRaises(type(error)) as caught:
                    with bench.trial():
                        bench.undo()
                        for _ in range(keeps):
                            bench.keep()
                        bench.say(HEARD)
                        raise error
                self.assertIs(caught.exception, error)
                self.assertEqual(whole(bench), before)
                self.assert_refused(bench, NoTrial, None, bench.keep)

    def test_an_error_caught_within_the_block(self):
        bench = some_bench()
        with bench.trial():
            bench.say(HEARD)
            with self.assertRaises(BadLine):
                bench.say("")
            bench.keep()
        self.assertEqual(bench.done, 4)

    def test_blocks_within_one_another(self):
        for outer, inner in ((False, False), (True, False), (False, True), (True, True)):
            bench = some_bench()
            before = whole(bench)
            with bench.trial():
                bench.strike(1)
                between = whole(bench)
                with bench.trial():
                    bench.say(HEARD)
                    if inner:
                        bench.keep()
                    within = whole(bench)
                self.assertEqual(whole(bench), within if inner else between)
                if outer:
                    bench.keep()
            expected = before if not outer else within if inner else between
            self.assertEqual(whole(bench), expected)

    def test_an_inner_block_left_by_an_error(self):
        bench = some_bench()
        with bench.trial():
            bench.keep()
            bench.say(HEARD)
            with self.assertRaises(BadNumber):
                with bench.trial():
                    bench.keep()
                    bench.undo()
                    bench.undo()
                    bench.strike(9)
            self.assertEqual(bench.done, 4)
        self.assertEqual(bench.done, 4)

    def test_an_error_through_both_blocks(self):
        bench = some_bench()
        before = whole(bench)
        with self.assertRaises(ZeroDivisionError):
            with bench.trial():
                bench.say(HEARD)
                bench.keep()
                with bench.trial():
                    bench.undo()
                    bench.keep()
                    raise ZeroDivisionError
        self.assertEqual(whole(bench), before)

    def test_undo_redo_and_strike_reach_what_was_ahead(self):
        bench = some_bench()
        before = whole(bench)
        with bench.trial():
            for _ in range(3):
                bench.undo()
            self.assert_refused(bench, NothingToUndo, None, bench.undo)
            for _ in range(5):
                bench.redo()
            self.assertEqual(bench.done, 5)
            bench.strike(1)
            self.assertEqual(bench.done, 4)
        self.assertEqual(whole(bench), before)
        bench.redo()
        self.assertEqual(bench.done, 4)

    def test_redo_kept(self):
        bench = some_bench()
        with bench.trial():
            bench.redo()
            bench.keep()
        self.assertEqual(bench.done, 4)
        bench.redo()
        self.assert_refused(bench, NothingToRedo, None, bench.redo)

    def test_as_it_was_when_it_was_entered(self):
        bench = some_bench()
        block = bench.trial()
        bench.say(HEARD)
        before = whole(bench)
        with block as held:
            held.undo()
            held.undo()
        self.assertEqual(whole(bench), before)
        self.assertEqual(bench.done, 4)

    def test_keep_outside(self):
        bench = some_bench()
        self.assert_refused(bench, NoTrial, None, bench.keep)
        block = bench.trial()
        self.assert_refused(bench, NoTrial, None, bench.keep)
        with block:
            bench.keep()
        self.assert_refused(bench, NoTrial, None, bench.keep)

    def test_two_benches_have_blocks_of_their_own(self):
        one, other = some_bench(), some_bench()
        with one.trial():
            one.undo()
            self.assert_refused(other, NoTrial, None, other.keep)
            with other.trial():
                other.undo()
                other.undo()
                one.keep()
        self.assertEqual((one.done, other.done), (2, 3))

    def test_random_blocks(self):
        chance, steps = Random(103), Deeds()
        for text in SKIES[::2]:
            bench, deeds, undone = Bench(text), [], []
            for _ in range(4):
                self.random_block(chance, steps, bench, text, deeds, undone, 0)
            self.assert_stands(bench, text, deeds, undone)

    def random_block(self, chance, steps, bench, text, deeds, undone, deep):
        before, kept, fails = (list(deeds), list(undone)), False, chance.random() < 0.2
        try:
            with bench.trial():
                for _ in range(chance.randint(1, 5)):
                    steps.step(chance, bench, text, deeds, undone)
                    if deep < 3 and chance.random() < 0.3:
                        self.random_block(chance, steps, bench, text, deeds, undone, deep + 1)
                    if chance.random() < 0.2:
                        bench.keep()
                        kept = True
                if fails:
                    raise LookupError
        except LookupError:
            self.assertIs(fails, True)
        if fails or not kept:
            deeds[:], undone[:] = before
        self.assert_stands(bench, text, deeds, undone)


class Tried(Checks, unittest.TestCase):
    def test_kept_for_true_alone(self):
        for keep in (False, True, 1, None, "yes", (1, 1), [True], 0):
            bench = some_bench()
            before = whole(bench)
            seen = []

            def look(held):
                seen.append(held)
                held.say(HEARD)
                return [held.done, keep]

            told = bench.tried(look, keep=keep)
            self.assertEqual(told, [4, keep])
            self.assertIs(seen[0], bench)
            self.assertEqual(bench.done, 4 if keep is True else 3)
            if keep is not True:
                self.assertEqual(whole(bench), before)
            self.assert_refused(bench, NoTrial, None, bench.keep)

    def test_without_keep(self):
        bench = some_bench()
        self.assertIsNone(bench.tried(look=Bench.gather))
        self.assertEqual(bench.tried(lambda held: held.placed()[0]), bench.placed()[0])
        self.assertEqual(bench.done, 3)
        with self.assertRaises(TypeError):
            bench.tried(Bench.gather, True)

    def test_the_very_value_is_returned(self):
        value = [object()]
        self.assertIs(Bench(TALK).tried(lambda held: value), value)

    def test_a_look_that_keeps(self):
        for keep in (False, True, None):
            bench = some_bench()

            def look(held):
                held.undo()
                held.keep()

            self.assertIsNone(bench.tried(look, keep=keep))
            self.assertEqual(bench.done, 2)

    def test_a_look_that_raises(self):
        for keep in (False, True):
            bench = some_bench()
            before = whole(bench)

            def look(held):
                held.undo()
                held.keep()
                held.say("nothing")

            with self.assertRaises(BadLine) as caught:
                bench.tried(look, keep=keep)
            self.assertEqual(caught.exception.value, "nothing")
            self.assertEqual(whole(bench), before)
            self.assert_refused(bench, NoTrial, None, bench.keep)

    def test_a_look_that_tries_itself(self):
        for outer, inner, done in ((False, False, 3), (True, False, 2), (False, True, 3), (True, True, 1)):
            bench = some_bench()

            def look(held):
                held.undo()
                return held.tried(Bench.undo, keep=inner), held.done

            self.assertEqual(bench.tried(look, keep=outer), (None, 1 if inner else 2))
            self.assertEqual(bench.done, done)

    def test_keep_is_for_the_looks_own_block(self):
        bench = some_bench()
        with bench.trial():
            bench.tried(Bench.undo, keep=True)
            self.assertEqual(bench.done, 2)
        self.assertEqual(bench.done, 3)

        def look(held):
            with held.trial():
                held.undo()
                held.keep()

        bench.tried(look)
        self.assertEqual(bench.done, 3)


class Copies(Checks, unittest.TestCase):
    def test_alike_in_all_things(self):
        bench = some_bench()
        twin = bench.copy()
        self.assertIs(type(twin), Bench)
        self.assertIsNot(twin, bench)
        self.assertEqual(whole(twin), whole(bench))
        self.assertEqual(twin, bench)

    def test_independent(self):
        bench = some_bench()
        before = whole(bench)
        twin = bench.copy()
        twin.undo()
        twin.say(HEARD)
        twin.strike(0)
        self.assertEqual(whole(bench), before)
        twin, there = bench.copy(), whole(bench)
        bench.redo()
        bench.redo()
        bench.strike(1)
        self.assertEqual(whole(twin), there)

    def test_made_within_a_block(self):
        bench = some_bench()
        with bench.trial():
            with bench.trial():
                bench.say(HEARD)
                twin = bench.copy()
                self.assert_refused(twin, NoTrial, None, twin.keep)
                bench.undo()
                with twin.trial():
                    twin.undo()
                    twin.keep()
                    twin.redo()
            self.assertEqual((bench.done, twin.done), (3, 4))
        self.assertEqual((bench.done, twin.done), (3, 4))
        self.assertEqual(journal(twin).split("\n")[-1], "say " + HEARD)


class Equal(unittest.TestCase):
    def test_if_their_journals_are(self):
        one, other = some_bench(), some_bench()
        self.assertTrue(one == other)
        self.assertFalse(one != other)
        other.redo()
        self.assertTrue(one != other)
        other.undo()
        other.say(HEARD)
        other.undo()
        # What can be done again does not matter.
        self.assertTrue(one == other)
        self.assertEqual(one, read_journal(journal(one)))

    def test_other_ways_to_the_same_sky_and_book(self):
        one, other = Bench(TALK), Bench(TALK)
        one.alter(("set", "a", 0, "fly 1"))
        self.assertEqual((one.sky, one.book), (other.sky, other.book))
        self.assertTrue(one != other)
        started = Bench(one.sky.text)
        self.assertTrue(started == other)
        one.undo()
        self.assertTrue(one == other)
        other.say(HEARD)
        other.strike(0)
        self.assertTrue(one == other)

    def test_within_a_block(self):
        one, other = some_bench(), some_bench()
        with one.trial():
            self.assertTrue(one == other)
            one.undo()
            self.assertTrue(one != other)
            other.undo()
            self.assertTrue(one == other)
        self.assertTrue(one != other)

    def test_nothing_else(self):
        bench = Bench(TALK)
        for value in no_fractions() + [journal(bench), Sky(TALK), bench.book, CrewError(bench), (bench,), [bench], TALK]:
            self.assertFalse(bench == value)
            self.assertTrue(bench != value)


if __name__ == "__main__":
    unittest.main()
