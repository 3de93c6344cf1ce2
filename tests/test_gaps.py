import unittest
from fractions import Fraction
from itertools import product
from random import Random

from crewclocks.books import Book, book_of, with_saying
from crewclocks.errors import Apart, BadMoment, BadPlane, NotFit, Wide
from crewclocks.events import sequence
from crewclocks.fitting import fits, is_placing, moment_in, shows_fits
from crewclocks.gaps import gap, one_sky, shows_gap, shows_one_sky, shows_surely, surely
from crewclocks.skies import Sky
from helpers import Raises, near, no_fractions, no_names, no_times, pair, worth
from oracle_books import NUMBERS, Told, random_books, skies_for_books, true_books

FIRST = "book\nship a\nship b\nheard b 1 left a 1 1"
BOTH = FIRST + "\nheard a 3 right b 2 1"
SLOWER = "book\nship a\nship b\npassed b 2 a 3 1/2"
LATE = "book\nship a\nship b\npassed a 0 b 0 1\npassed a 1 b 2 1"
RED = "book\nship a\nship b\npassed a 0 b 0 1\npassed a 1 b 1 2"
A, B = ("a", (0, 1)), ("b", (0, 1))
ODD = [None, True, False, 0, 1, "", "u", (), [], {}, (None,), (None, None, None), ("ahead",), ("not",), ("one", "two")]


def some_books():
    texts = random_books(41, 130) + random_books(42, 60, ships=2, most=4) + random_books(43, 60, ships=3, most=6) + true_books(52, 50)
    for text in skies_for_books(44, 50):
        try:
            texts.append(book_of(Sky(text)).text)
        except Wide:
            continue
    return [text for text in texts if fits(Book(text))[0] == "placing"]


BOOKS = some_books()


def moments(chance, book, many):
    """Pairs of moments, at times that the book tells, at other ones, and at 0."""
    told = Told(book.text)
    times = [Fraction(text) for text in NUMBERS] + [row[1] for row in told.felt] + [Fraction(9), Fraction(1, 3)]
    for words in told.sayings:
        times.extend([Fraction(words[2]), Fraction(words[-2])])
    return [((chance.choice(book.names), pair(chance.choice(times))), (chance.choice(book.names), pair(chance.choice(times))))
            for _ in range(many)]


def plainly(moment):
    return moment[0], worth(moment[1])


def are_one_part(book, one, other):
    return any(one[0] in lot and other[0] in lot for lot in Told(book.text).parts())


def chain_by_hand(text, plane, one, other, chain):
    """(sum from moment to moment, whether a step tells more than 0) of a chain, seen by the onlooker of its first ship."""
    told = Told(text)
    paces = told.paces()
    here, time = plainly(one)
    total, more = Fraction(0), False
    seen_paces = {name: pace / paces[here] for name, pace in paces.items()}
    for number, way in chain:
        words = told.sayings[number]
        name, its_own, its_other, sent = told.both(words)
        begin, end = ((its_other, sent), (name, its_own)) if way == 1 else ((name, its_own), (its_other, sent))
        assert begin[0] == here
        total += told.place(seen_paces, *begin, plane) - told.place(seen_paces, here, time, plane)
        here, time = end
        if words[0] == "heard" and (words[3] == "left") == (plane == "u"):
            assert way == 1
            more = True
    assert here == other[0]
    return total + told.place(seen_paces, *plainly(other), plane) - told.place(seen_paces, here, time, plane), more


class Gap(unittest.TestCase):
    def test_random_books(self):
        chance, kinds = Random(45), set()
        for text in BOOKS:
            book, told = Book(text), Told(text)
            for one, other in moments(chance, book, 5):
                if not are_one_part(book, one, other):
                    continue
                for plane in "uv":
                    found = gap(book, plane, one, other)
                    expected = told.gap(plane, plainly(one), plainly(other))
                    self.assertEqual(tuple(bound and bound[:2] for bound in found), expected, text)
                    self.assertIs(shows_gap(book, plane, one, other, found), True)
                    self.assertEqual(gap(other=other, one=one, plane=plane, book=Book(text)), found)
                    kinds.add(tuple(bound and bound[1] for bound in found))
        # What is reached is reached by level steps alone, that lead back as well.
        self.assertEqual(kinds, {(None, None), (None, False), (False, None), (False, False), (True, True)})

    def test_chains_have_the_sums_that_are_told(self):
        chance, long = Random(46), 0
        for text in BOOKS:
            book = Book(text)
            for one, other in moments(chance, book, 5):
                if one[0] == other[0] or not are_one_part(book, one, other):
                    continue
                paces = Told(text).paces()
                ratio = paces[other[0]] / paces[one[0]]
                for plane in "uv":
                    least, greatest = gap(book, plane, one, other)
                    if least is not None:
                        total, more = chain_by_hand(text, plane, one, other, least[2])
                        self.assertEqual((pair(total), not more), least[:2])
                        long += len(least[2]) > 1
                    if greatest is not None:
                        total, more = chain_by_hand(text, plane, other, one, greatest[2])
                        # Seen by the onlooker of one's ship.
                        total = total * ratio if plane == "u" else total / ratio
                        self.assertEqual((pair(-total), not more), greatest[:2])
        self.assertGreater(long, 30)

    def test_placings_stay_within(self):
        chance = Random(47)
        for text in BOOKS:
            book = Book(text)
            placing = fits(book)[1]
            for one, other in moments(chance, book, 3):
                if not are_one_part(book, one, other):
                    continue
                pace = worth([row for row in placing if row[0] == one[0]][0][2])
                here, there = moment_in(book, placing, *one)[0], moment_in(book, placing, *other)[0]
                for k, plane in enumerate("uv"):
                    found = worth(there[k]) - worth(here[k])
                    found = found / pace if plane == "u" else found * pace
                    least, greatest = gap(book, plane, one, other)
                    if least is not None:
                        self.assertTrue(found > worth(least[0]) or (found == worth(least[0]) and least[1]))
                    if greatest is not None:
                        self.assertTrue(found < worth(greatest[0]) or (found == worth(greatest[0]) and greatest[1]))

    def test_on_one_ship(self):
        for text in BOOKS[::12]:
            book = Book(text)
            for name, time, later in product(book.names[:2], ("0", "1/2"), ("0", "7/2")):
                one, other = (name, pair(time)), (name, pair(later))
                for plane in "uv":
                    told = Told(text)
                    worths = told.own(name, Fraction(time)), told.own(name, Fraction(later))
                    own = pair(worths[1]["_uv".index(plane)] - worths[0]["_uv".index(plane)])
                    expected = ((own, True, ()), (own, True, ()))
                    self.assertEqual(gap(book, plane, one, other), expected)
                    self.assertIs(shows_gap(book, plane, one, other, expected), True)
                    for value in near(expected):
                        self.assertIs(shows_gap(book, plane, one, other, value), False, value)

    def test_on_one_ship_no_other_chain_is_right(self):
        book = Book(BOTH)
        told = ((0, 1), True)
        for chain in (((0, -1), (0, 1)), ((0, 1), (0, -1)), ((1, 1), (1, -1)), [], None):
            for plane in "uv":
                self.assertIs(shows_gap(book, plane, A, A, (told + (chain,), told + ((),))), False)
                self.assertIs(shows_gap(book, plane, A, A, (told + ((),), told + (chain,))), False)

    def test_reached_and_not_reached(self):
        book = Book("book\nship a\nship b\nship c\nheard b 1 left a 1 1\npassed c 0 b 5 1")
        self.assertEqual(gap(book, "u", A, ("b", (1, 1))), (((1, 1), False, ((0, 1),)), None))
        self.assertEqual(gap(book, "v", A, B), (((0, 1), True, ((0, 1),)), ((0, 1), True, ((0, -1),))))
        self.assertEqual(gap(book, "u", B, A), (None, ((0, 1), False, ((0, 1),))))
        self.assertEqual(gap(book, "u", A, ("c", (0, 1))), (((5, 1), False, ((0, 1), (1, 1))), None))
        self.assertEqual(gap(book, "u", B, ("c", (0, 1))), (((5, 1), True, ((1, 1),)), ((5, 1), True, ((1, -1),))))

    def test_the_greater_one_of_two_sums(self):
        text = "book\nship a\nship b\nship c\nheard b 1 left a 1 1\nheard c 1 right b 1 1\nheard c 1 left a 2 1"
        book = Book(text)
        told = gap(book, "u", A, ("c", (0, 1)))
        self.assertEqual(told, (((1, 1), False, ((2, 1),)), None))
        self.assertIs(shows_gap(book, "u", A, ("c", (0, 1)), (((0, 1), False, ((0, 1), (1, 1))), None)), False)
        self.assertIs(shows_gap(book, "u", A, ("c", (0, 1)), (((1, 1), False, ((0, 1), (1, 1))), None)), False)
        self.assertIs(shows_gap(book, "u", A, ("c", (0, 1)), (((1, 1), True, ((2, 1),)), None)), False)
        self.assertIs(shows_gap(book, "u", A, ("c", (0, 1)), (((1, 1), False, ((2, 1), (1, -1), (1, 1))), None)), True)

    def test_chains_in_which_ships_and_sayings_come_again(self):
        book = Book(BOTH)
        told = gap(book, "u", A, B)
        self.assertEqual(told, (((1, 1), True, ((1, -1),)), ((1, 1), True, ((1, 1),))))
        long = ((1, -1), (1, 1), (1, -1))
        self.assertIs(shows_gap(book, "u", A, B, (told[0][:2] + (long,), told[1])), True)
        self.assertIs(shows_gap(book, "u", A, B, (told[0], told[1][:2] + (((1, 1), (1, -1), (1, 1)),))), True)
        for chain in (((0, 1),), ((1, -1), (1, 1)), ((1, 1),), (), ((0, 1), (0, -1), (1, -1)), [(1, -1)], ((1, -1), (1, -1))):
            self.assertIs(shows_gap(book, "u", A, B, (told[0][:2] + (chain,), told[1])), False)
        least = gap(book, "v", A, B)[0]
        self.assertEqual(least, ((0, 1), True, ((0, 1),)))
        self.assertIs(shows_gap(book, "v", A, B, (least[:2] + (((0, 1), (0, -1), (0, 1)),), gap(book, "v", A, B)[1])), True)

    def test_the_onlooker_of_the_first_moments_ship(self):
        book = Book(SLOWER)
        self.assertEqual([gap(book, plane, one, other)[0][0] for plane in "uv" for one, other in ((A, B), (B, A))],
                         [(-1, 1), (1, 2), (2, 1), (-4, 1)])

    def test_values_near_right_ones(self):
        for text in (FIRST, BOTH, SLOWER):
            book = Book(text)
            for plane, (one, other) in product("uv", ((A, B), (B, A), (("a", (1, 1)), ("b", (5, 2))))):
                told = gap(book, plane, one, other)
                for value in near(told):
                    self.assertIs(shows_gap(book, plane, one, other, value), False, value)
                for value in ODD + no_fractions() + [told[::-1] if told[0] != told[1] else None, list(told), (told,), (told, told)]:
                    self.assertIs(shows_gap(book, plane, one, other, value), False, value)


class Planes(unittest.TestCase):
    def test_a_gap_of_each_plane_is_had_together(self):
        # Whatever surely tells is so only if one placing has both.
        chance = Random(48)
        for text in BOOKS[::2]:
            book = Book(text)
            for one, other in moments(chance, book, 4):
                told = surely(book, one, other)
                if are_one_part(book, one, other) and one[0] != other[0]:
                    bounds = [gap(book, plane, one, other)[0] for plane in "uv"]
                    ahead = None not in bounds and min(bound[0][0] for bound in bounds) >= 0
                    ahead = ahead and any(bound[:2] != ((0, 1), True) for bound in bounds)
                    self.assertEqual(told[0] == "ahead", ahead)


class Surely(unittest.TestCase):
    def test_random_books(self):
        chance, words = Random(49), {}
        for text in BOOKS:
            book = Book(text)
            for one, other in moments(chance, book, 5):
                told = surely(book, one, other)
                words[told[0]] = words.get(told[0], 0) + 1
                self.assertIs(shows_surely(book, one, other, told), True)
                self.assertEqual(surely(other=other, one=one, book=Book(text)), told)
                if told[0] == "not":
                    self.assertIs(is_placing(book, told[1]), True)
                    events = [moment_in(book, told[1], *moment)[0] for moment in (one, other)]
                    self.assertNotEqual(sequence(*events), ("ahead",))
                    self.assertIs(shows_surely(book, one, other, ("ahead", (), ())), False)
                else:
                    self.assertEqual(surely(book, other, one)[0], "not")
                    placing = fits(book)[1]
                    events = [moment_in(book, placing, *moment)[0] for moment in (one, other)]
                    self.assertEqual(sequence(*events), ("ahead",))
                    self.assertIs(shows_surely(book, one, other, ("not", placing)), False)
        self.assertGreater(min(words["ahead"], words["not"]), 100)

    def test_in_each_placing(self):
        chance = Random(50)
        for text in BOOKS[::3]:
            book = Book(text)
            for one, other in moments(chance, book, 3):
                if surely(book, one, other)[0] == "ahead":
                    for third, fourth in moments(chance, book, 5):
                        told = surely(book, third, fourth)
                        if told[0] == "not":
                            events = [moment_in(book, told[1], *moment)[0] for moment in (one, other)]
                            self.assertEqual(sequence(*events), ("ahead",))

    def test_on_one_ship(self):
        for text in (FIRST, BOTH, SLOWER, "book\nship a\nfelt a 1 2"):
            book = Book(text)
            self.assertEqual(surely(book, ("a", (1, 2)), ("a", (2, 3))), ("ahead", (), ()))
            for one, other in ((("a", (2, 3)), ("a", (1, 2))), (("a", (1, 2)), ("a", (1, 2))), (A, A)):
                self.assertEqual(surely(book, one, other)[0], "not")
                self.assertIs(shows_surely(book, one, other, ("not", fits(book)[1])), True)
            for value in near(("ahead", (), ())) + [("ahead", ((0, 1), (0, -1)), ()), ("ahead", [], [])]:
                self.assertIs(shows_surely(book, ("a", (1, 2)), ("a", (2, 3)), value), False)

    def test_one_event_in_all_placings(self):
        book = Book(SLOWER)
        for one, other in ((("b", (2, 1)), ("a", (3, 1))), (("a", (3, 1)), ("b", (2, 1)))):
            word, placing = surely(book, one, other)
            self.assertEqual(word, "not")
            events = [moment_in(book, placing, *moment)[0] for moment in (one, other)]
            self.assertEqual(events[0], events[1])
        self.assertEqual(surely(book, ("b", (2, 1)), ("a", (4, 1)))[0], "ahead")
        self.assertEqual(surely(book, ("b", (1, 1)), ("a", (3, 1))), ("ahead", ((0, -1),), ((0, -1),)))

    def test_flashes_are_ahead_of_their_hearings(self):
        for text in BOOKS:
            book = Book(text)
            for saying in book.sayings[:4]:
                if saying[0] == "heard":
                    _, name, time, _, other, sent, _ = saying
                    self.assertEqual(surely(book, (other, sent), (name, time))[0], "ahead")
                    self.assertEqual(surely(book, (name, time), (other, sent))[0], "not")

    def test_unlike_parts(self):
        book = Book("book\nship a\nship b\nship c\npassed b 0 a 1 2")
        for one, other in product([("a", (5, 1)), ("b", (0, 1)), ("c", (0, 1)), ("c", (9, 1))], repeat=2):
            if (one[0] == "c") != (other[0] == "c"):
                told = surely(book, one, other)
                self.assertEqual(told[0], "not")
                self.assertIs(shows_surely(book, one, other, told), True)

    def test_values_near_right_ones(self):
        book = Book(FIRST)
        right = ("ahead", ((0, 1),), ((0, 1),))
        self.assertEqual(surely(book, A, B), right)
        for value in near(right) + ODD + no_fractions() + [list(right), ("ahead", ((0, 1),), ((0, -1),))]:
            self.assertIs(shows_surely(book, A, B, value), False, value)
        self.assertIs(shows_surely(book, A, B, ("ahead", ((0, 1),), ((0, 1), (0, -1), (0, 1)))), True)
        placing = surely(book, B, A)[1]
        for value in near(("not", placing)) + ODD + no_fractions():
            if not (isinstance(value, tuple) and value[:1] == ("not",) and is_placing(book, value[-1])):
                self.assertIs(shows_surely(book, B, A, value), False, value)
        for value in (("not", fits(Book("book\nship a\nship b"))[1]), right):
            self.assertIs(shows_surely(book, B, A, value), False)


class OneSky(unittest.TestCase):
    def test_random_books(self):
        words = {}
        for text in BOOKS:
            book = Book(text)
            told = one_sky(book)
            words[told[0]] = words.get(told[0], 0) + 1
            self.assertIs(shows_one_sky(book, told), True)
            self.assertEqual(one_sky(book=Book(text)), told)
            lots = Told(text).parts()
            if len(lots) > 1:
                self.assertEqual(told[0], "apart")
                self.assertNotEqual([lot for lot in lots if told[1] in lot], [lot for lot in lots if told[2] in lot])
                continue
            fixed = [Told(text).gap(plane, (book.names[0], Fraction(0)), (name, Fraction(0)))
                     for name in book.names[1:] for plane in "uv"]
            self.assertEqual(told[0] == "one", all(least and least == greatest for least, greatest in fixed))
            for plane, one, other in product("uv", book.names[:3], book.names[:3]):
                value = ("slides", plane, (one, (1, 3)), (other, (2, 1)))
                least, greatest = Told(text).gap(plane, (one, Fraction(1, 3)), (other, Fraction(2)))
                right = one != other and (least is None or greatest is None or least[0] != greatest[0])
                self.assertIs(shows_one_sky(book, value), right)
        self.assertGreater(min(words["one"], words["apart"], words["slides"]), 10)

    def test_one_ship(self):
        book = Book("book\nship a\nfelt a 1 2")
        self.assertEqual(one_sky(book), ("one",))
        for value in near(("one",)) + ODD + [("slides", "u", A, ("a", (1, 1))), ("apart", "a", "a"), "one", ["one"]]:
            self.assertIs(shows_one_sky(book, value), False)

    def test_slides_within_bounds(self):
        book = Book("book\nship a\nship b\nship c\nheard b 1 left a 1 1\nheard c 1 left b 1 1\nheard a 9 right c 1 1")
        told = one_sky(book)
        self.assertEqual(told[:2], ("slides", "u"))
        self.assertEqual([bound[:2] for bound in gap(book, "u", A, B)], [((0, 1), False), ((8, 1), False)])
        self.assertIs(shows_one_sky(book, ("slides", "u", ("b", (3, 1)), ("c", (0, 1)))), True)
        self.assertIs(shows_one_sky(book, ("slides", "u", ("a", (3, 1)), ("c", (0, 1)))), False)
        self.assertIs(shows_one_sky(book, ("slides", "v", ("b", (3, 1)), ("c", (0, 1)))), False)

    def test_values_near_right_ones(self):
        book = Book(FIRST)
        right = ("slides", "u", A, B)
        self.assertIs(shows_one_sky(book, right), True)
        for value in ODD + no_fractions() + [("one",), ("apart", "a", "b"), list(right), ("slides", "v", A, B), ("slides", "u", A, A),
                                             ("slides", "u", A), ("slides", A, B), right + (None,), ("slides", "u", ("a", (-1, 1)), B),
                                             ("slides", "u", ("c", (0, 1)), B), ("slides", "u", A, ["b", (0, 1)]), ("slides", "w", A, B),
                                             ("Slides", "u", A, B), ("slides", "u", A, ("b", (False, 1))), ("slides", None, A, B),
                                             ("slides", "u", A, ("b", (2, 2))), ("slides", "u", "a", "b"), ("slides", "u", None, B)]:
            self.assertIs(shows_one_sky(book, value), False, value)
        for one, other in product([A, ("a", (7, 3))], [B, ("b", (1, 1))]):
            self.assertIs(shows_one_sky(book, ("slides", "u", one, other)), True)
            self.assertIs(shows_one_sky(book, ("slides", "u", other, one)), True)

    def test_planes(self):
        for line, plane in (("heard b 1 left a 1 1", "u"), ("heard b 1 right a 1 1", "v"),
                            ("heard b 1 right a 2 2\nheard b 2 right a 4 2", "v")):
            book = Book(f"book\nship a\nship b\n{line}")
            for value in ("u", "v", "w", "", None, True, ("u",), "U"):
                self.assertIs(shows_one_sky(book, ("slides", value, A, B)), value == plane)

    def test_apart(self):
        book = Book("book\nship a\nship b\nship c\nship d\npassed c 0 a 1 2")
        for one, other in product("abcd", repeat=2):
            right = one != other and {one, other} != {"a", "c"}
            self.assertIs(shows_one_sky(book, ("apart", one, other)), right)
        for value in [("apart", "a"), ("apart", "a", "b", "c"), ("apart", "a", "e"), ("apart", "a", None), ("apart", None, "b"),
                      ("apart", ["a"], "b"), ("apart", ("a",), "b"), ["apart", "a", "b"], ("Apart", "a", "b"), ("one",),
                      ("slides", "u", A, B), ("slides", "u", A, ("c", (0, 1)))]:
            self.assertIs(shows_one_sky(book, value), False, value)


class Errors(Raises, unittest.TestCase):
    CALLS = ((gap, 4), (shows_gap, 5), (surely, 3), (shows_surely, 4), (one_sky, 1), (shows_one_sky, 2))

    def test_books_without_a_placing(self):
        for text in (LATE, RED):
            for call, many in self.CALLS:
                for rest in ((None,) * (many - 1), ("u", A, B, None)[:many - 1]):
                    with self.assertRaises(NotFit) as caught:
                        call(Book(text), *rest)
                    self.assertEqual(caught.exception.value, fits(Book(text)))
                    self.assertIs(shows_fits(Book(text), caught.exception.value), True)

    def test_planes(self):
        for value in no_fractions() + ["w", "U", "uv", "", "left", ("u",), ["u"], b"u"]:
            self.assert_told(BadPlane, value, gap, Book(FIRST), value, None, None)
            self.assert_told(BadPlane, value, shows_gap, Book(FIRST), value, A, B, None)

    def test_moments(self):
        values = no_fractions() + [("a",), ("a", (0, 1), 1), ["a", (0, 1)], ((0, 1), "a"), "a", ("a", 0), ("a", None), (None, (0, 1))]
        values += [(name, (0, 1)) for name in no_names() + ["c", "A"]] + [("a", time) for time in no_times()]
        for value in values:
            for plane in "uv":
                self.assert_told(BadMoment, value, gap, Book(FIRST), plane, value, None)
                self.assert_told(BadMoment, value, gap, Book(FIRST), plane, A, value)
                self.assert_told(BadMoment, value, shows_gap, Book(FIRST), plane, A, value, None)
            self.assert_told(BadMoment, value, surely, Book(FIRST), value, None)
            self.assert_told(BadMoment, value, surely, Book(FIRST), B, value)
            self.assert_told(BadMoment, value, shows_surely, Book(FIRST), value, None, None)
            self.assert_told(BadMoment, value, shows_surely, Book(FIRST), B, value, None)

    def test_apart(self):
        book = Book("book\nship a\nship b\nship c\npassed a 0 c 1 2")
        for one, other in (("a", "b"), ("b", "a"), ("b", "c"), ("c", "b")):
            for call, rest in ((gap, ()), (shows_gap, (None,))):
                with self.assertRaises(Apart) as caught:
                    call(book, "u", (one, (0, 1)), (other, (5, 1)), *rest)
                self.assertEqual(caught.exception.value, (one, other))
        wrong = ("b", (2, 2))
        self.assert_told(BadMoment, wrong, gap, book, "u", A, wrong)

    def test_arguments_are_not_changed(self):
        book, one, other = Book(BOTH), ("a", (0, 1)), ("b", (1, 2))
        value = [1, [2], {"u": [3]}]
        for call, rest in ((shows_gap, ("u", one, other)), (shows_surely, (one, other)), (shows_one_sky, ())):
            self.assertIs(call(book, *rest, value), False)
        self.assertEqual(value, [1, [2], {"u": [3]}])
        self.assertEqual(book, Book(BOTH))


class Great(unittest.TestCase):
    def test_six_ships_and_forty_lines(self):
        chance = Random(51)
        rows = ["book"] + [f"ship {name}" for name in "abcdef"]
        for k in range(20):
            rows.append(f"felt {'abcdef'[k % 6]} {10 ** 11 + k} {10 ** 11 + 3 * k + 1}/{2 ** 36}")
        book = Book("\n".join([row for row in rows if all("/" not in word or str(Fraction(word)) == word for word in row.split(" "))]))
        paces = {name: Fraction(chance.randint(1, 10 ** 6), chance.randint(1, 10 ** 6)) for name in "abcdef"}
        while len(book.felt) + len(book) < 40:
            name, other = chance.sample("abcdef", 2)
            time, sent = Fraction(chance.randint(10 ** 9, 10 ** 11), 7), Fraction(chance.randint(0, 10 ** 9), 9)
            told = Told(book.text)
            factor = paces[other] * told.own(other, sent)[0] / paces[name] / told.own(name, time)[0]
            book = with_saying(book, f"heard {name} {time} left {other} {sent} {factor}")
            if fits(book)[0] != "placing":
                book = Book(book.text.rsplit("\n", 1)[0])
                book = with_saying(book, book.text.rsplit("\n", 1)[1]) if len(book) else book
        self.assertEqual(len(book.felt) + len(book), 40)
        one, other = (book.sayings[0][1], (1, 3)), (book.sayings[0][4], (10 ** 11, 7))
        for plane in "uv":
            told = gap(book, plane, one, other)
            self.assertEqual(tuple(bound and bound[:2] for bound in told), Told(book.text).gap(plane, plainly(one), plainly(other)))
            self.assertIs(shows_gap(book, plane, one, other, told), True)
        self.assertIs(shows_surely(book, one, other, surely(book, one, other)), True)
        self.assertIs(shows_one_sky(book, one_sky(book)), True)


if __name__ == "__main__":
    unittest.main()
