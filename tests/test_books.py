import unittest
from fractions import Fraction
from random import Random

from crewclocks.books import Book, book_of, own_place, with_saying, without_saying
from crewclocks.errors import BadBook, BadLine, BadTime, NoName, NoSaying, Wide
from crewclocks.fitting import is_placing
from crewclocks.flights import Flight
from crewclocks.skies import Sky, seen_sky
from helpers import Raises, no_fractions, no_names, no_times, pair
from oracle import movers_of, rows_of
from oracle_books import NUMBERS, Told, random_books, skies_for_books

TEXT = "book\nship a\nship b\nfelt a 2 3/2\nheard a 4 right b 1 2\npassed a 0 b 0 1/2"
HEAD = "book\nship a\nship b\n"
HEARD = "heard a 4 right b 1 2"
PASSED = "passed b 1/2 a 0 3"
FELT = "felt a 2 3/2"
BOOKS = [TEXT, "book\nship a"] + random_books(21, 80)


class Attributes(unittest.TestCase):
    def test_all_attributes(self):
        book = Book(TEXT)
        self.assertEqual((book.text, book.names, len(book)), (TEXT, ("a", "b"), 2))
        self.assertEqual(book.felt, (("a", (2, 1), (3, 2)),))
        self.assertEqual(book.sayings, (("heard", "a", (4, 1), "right", "b", (1, 1), (2, 1)),
                                        ("passed", "a", (0, 1), "b", (0, 1), (1, 2))))
        for value in (book.names, book.felt, book.felt[0], book.sayings, book.sayings[0]):
            self.assertIs(type(value), tuple)
        self.assertIs(type(len(book)), int)

    def test_any_text(self):
        for text in BOOKS:
            book, told = Book(text=text), Told(text)
            self.assertEqual((book.text, list(book.names), len(book)), (text, told.names, len(told.sayings)))
            self.assertEqual(book.felt, tuple((name, pair(time), pair(factor)) for name, time, factor in told.felt))
            rows = []
            for words in told.sayings:
                side = [words[3]] if words[0] == "heard" else []
                rows.append((words[0], words[1], pair(words[2]), *side, words[-3], pair(words[-2]), pair(words[-1])))
            self.assertEqual(book.sayings, tuple(rows))

    def test_without_sayings(self):
        book = Book("book\nship abcdef")
        self.assertEqual((book.names, book.felt, book.sayings, len(book)), (("abcdef",), (), (), 0))

    def test_six_ships_and_forty_lines(self):
        rows = [f"felt a {k} 2" for k in range(13)] + [f"heard a {k} left b 1/2 3" for k in range(13)]
        rows += [f"passed f 0 a {k} 2" for k in range(14)]
        Random(1).shuffle(rows)
        book = Book("\n".join(["book"] + [f"ship {name}" for name in "abcdef"] + rows))
        self.assertEqual((len(book.names), len(book.felt), len(book)), (6, 13, 27))

    def test_felt_lines_of_one_time_by_other_ships(self):
        book = Book(HEAD + "felt a 2 3\nfelt b 2 3\nfelt a 0 3\nfelt a 1/2 3")
        self.assertEqual([row[:2] for row in book.felt], [("a", (2, 1)), ("b", (2, 1)), ("a", (0, 1)), ("a", (1, 2))])

    def test_the_same_saying_twice(self):
        self.assertEqual(len(Book(f"{HEAD}{HEARD}\n{HEARD}\n{PASSED}\n{PASSED}")), 4)

    def test_names_like_words(self):
        book = Book("book\nship left\nship heard\nship felt\nheard left 1 left heard 1 1\nfelt felt 1 1\npassed heard 0 felt 0 1")
        self.assertEqual((book.names, len(book)), (("left", "heard", "felt"), 2))


class Equality(unittest.TestCase):
    def test_by_texts(self):
        for one in BOOKS[:25]:
            for other in BOOKS[:25]:
                self.assertIs(Book(one) == Book(other), one == other)
                self.assertIs(Book(one) != Book(other), one != other)

    def test_equal_to_nothing_else(self):
        book = Book(TEXT)
        others = [TEXT, book.sayings, book.names, (TEXT,), [TEXT], Flight("flight 0 0 1"), Sky("sky\nship a 0 0 1")]
        for other in others + no_fractions():
            self.assertIs(book == other, False)
            self.assertIs(other == book, False)
            self.assertIs(book != other, True)


class Wrong(Raises, unittest.TestCase):
    def test_no_string(self):
        for value in no_fractions() + [b"book", ["book", "ship a"], (TEXT,), Book(TEXT)]:
            if not isinstance(value, str):
                self.assert_number(BadBook, 0, Book, value)

    def test_first_line(self):
        for line in ("", " ", "Book", " book", "book ", "book a", "books", "sky", "ship a", FELT):
            self.assert_number(BadBook, 1, Book, line)
            self.assert_number(BadBook, 1, Book, f"{line}\nship a\n")

    def test_no_ship_line(self):
        self.assert_number(BadBook, 2, Book, "book")
        self.assert_number(BadBook, 2, Book, "book\n")
        for line in (FELT, HEARD, PASSED):
            self.assert_number(BadBook, 2, Book, f"book\n{line}")
            self.assert_number(BadBook, 2, Book, f"book\n{line}\nship a\nship b")

    def test_line_feeds(self):
        self.assert_number(BadBook, 3, Book, "book\nship a\n")
        self.assert_number(BadBook, 7, Book, TEXT + "\n")
        self.assert_number(BadBook, 3, Book, "book\nship a\n\nship b")
        self.assert_number(BadBook, 1, Book, "\n" + TEXT)

    def test_ship_lines(self):
        for line in ("ship", "ship ", "ship  b", "ship b ", " ship b", "ship B", "ship abcdefg", "ship b c", "ship b 0 0 1",
                     "ship 1", "Ship b", "ships b", "ship\tb", "shi b", "ship a", "boat b"):
            self.assert_number(BadBook, 3, Book, f"book\nship a\n{line}")
            self.assert_number(BadBook, 3, Book, f"book\nship a\n{line}\n{FELT}")
        self.assert_number(BadBook, 4, Book, "book\nship a\nship b\nship b")

    def test_a_seventh_ship(self):
        text = "\n".join(["book"] + [f"ship {name}" for name in "abcdef"])
        self.assertEqual(len(Book(text).names), 6)
        self.assert_number(BadBook, 8, Book, text + "\nship g")

    def test_ship_lines_behind_others(self):
        for line in (FELT, HEARD, PASSED):
            self.assert_number(BadBook, 5, Book, f"{HEAD}{line}\nship c")
        self.assert_number(BadBook, 3, Book, "book\nship a\nheard a 4 right b 1 2\nship b")

    def test_a_41st_line(self):
        for rows in ([f"felt a {k} 2" for k in range(41)], [HEARD] * 41, [PASSED] * 41,
                     [FELT] + [HEARD] * 20 + [PASSED] * 20, [HEARD] * 40 + [FELT]):
            self.assertEqual(len(Book(HEAD + "\n".join(rows[:40])).text.split("\n")), 43)
            self.assert_number(BadBook, 44, Book, HEAD + "\n".join(rows))
            self.assert_number(BadBook, 44, Book, HEAD + "\n".join(rows[:40] + ["no", "way"]))

    def test_names_that_are_no_ships(self):
        for line in ("felt c 2 3/2", "heard c 4 right b 1 2", "heard a 4 right c 1 2", "passed c 1/2 a 0 3",
                     "passed b 1/2 c 0 3", "felt A 2 3", "felt ab 2 3", "heard  4 right b 1 2"):
            self.assert_number(BadBook, 4, Book, HEAD + line)

    def test_a_ship_with_itself(self):
        for line in ("heard a 4 right a 1 2", "heard b 4 left b 4 2", "passed a 0 a 0 1", "passed b 1/2 b 0 3"):
            self.assert_number(BadBook, 4, Book, HEAD + line)
            self.assert_number(BadBook, 5, Book, f"{HEAD}{FELT}\n{line}")

    def test_two_felt_lines_of_one_time(self):
        self.assert_number(BadBook, 5, Book, f"{HEAD}{FELT}\n{FELT}")
        self.assert_number(BadBook, 5, Book, f"{HEAD}{FELT}\nfelt a 2 5")
        self.assert_number(BadBook, 7, Book, f"{HEAD}{FELT}\nfelt b 2 5\n{HEARD}\nfelt a 2 1")

    def test_sides_times_factors_and_colours(self):
        for side in ("up", "Left", "leftright", "u", "l", "right,"):
            self.assert_number(BadBook, 4, Book, f"{HEAD}heard a 4 {side} b 1 2")
        for wrong in ("2/4", "3/1", "+1", "01", "-0", "1/-2", "1_0", "1/0", "0/1", "/2", "1/", "-", "1.0", "1e3", "one",
                      "-1", "-1/2", ""):
            for line in (f"felt a {wrong} 2", f"heard a {wrong} left b 1 2", f"heard a 1 left b {wrong} 2",
                         f"passed a {wrong} b 1 2", f"passed a 1 b {wrong} 2", f"felt a 1 {wrong}",
                         f"heard a 1 left b 1 {wrong}", f"passed a 1 b 1 {wrong}"):
                self.assert_number(BadBook, 5, Book, f"{HEAD}{PASSED}\n{line}")
        for line in ("felt a 1 0", "heard a 1 left b 1 0", "passed a 1 b 1 0"):
            self.assert_number(BadBook, 4, Book, HEAD + line)
        self.assertEqual(len(Book(HEAD + "felt a 0 1\nheard a 0 left b 0 1\npassed a 0 b 0 1")), 2)

    def test_forms(self):
        for line in ("", " ", "felt", "felt a", "felt a 2", "felt a 2 3/2 1", "felt  a 2 3/2", "felt a 2 3/2 ", " felt a 2 3/2",
                     "Felt a 2 3/2", "feel a 2 3/2", "felt 2 a 3/2", "heard a 4 right b 1", "heard a 4 b 1 2",
                     "heard a 4 right b 1 2 3", "heard a right 4 b 1 2", " heard a 4 right b 1 2", "heard a 4 right b 1 2 ",
                     "heard a  4 right b 1 2", "heard", "passed", "passed a 0 b 0", "passed a 0 b 0 1 1",
                     "passed a 0 left b 0 1", "passed a 0  b 0 1", "Passed a 0 b 0 1", "met a 0 b 0 1", "sent a 0 p",
                     "a heard 4 right b 1 2", "heard\ta 4 right b 1 2", "fly 1", "ship c 0 0 1", "book"):
            self.assert_number(BadBook, 4, Book, HEAD + line)
            self.assert_number(BadBook, 6, Book, f"{HEAD}{HEARD}\n{FELT}\n{line}\n{PASSED}")

    def test_the_first_wrong_line_is_told(self):
        self.assert_number(BadBook, 2, Book, "book\nship A\nship a\nship a\nno")
        self.assert_number(BadBook, 4, Book, f"{HEAD}felt c 1 1\nfelt a 1 0\n")
        self.assert_number(BadBook, 6, Book, f"{HEAD}{FELT}\n{HEARD}\nfelt a 2 1\nship c\n")


class OwnPlace(Raises, unittest.TestCase):
    def test_random_books(self):
        times = sorted({Fraction(text) for text in NUMBERS} | {Fraction(1, 3), Fraction(7, 4), Fraction(5), Fraction(1000)})
        for text in BOOKS:
            book, told = Book(text), Told(text)
            for name in book.names:
                for time in times:
                    self.assertEqual(own_place(book, name, pair(time)), tuple(pair(part) for part in told.own(name, time)))

    def test_felt_lines_in_any_sequence(self):
        rows = ["felt a 3 1/2", "felt a 0 2", "felt a 1 3/2", "felt b 2 5", "felt a 5/2 4"]
        expected = [((2, 1), (0, 1), (0, 1)), ((2, 1), (1, 1), (1, 4)), ((3, 1), (2, 1), (1, 2)), ((3, 1), (5, 1), (5, 6)),
                    ((12, 1), (13, 2), (1, 1)), ((6, 1), (25, 2), (25, 24)), ((6, 1), (49, 2), (33, 24))]
        chance = Random(2)
        for _ in range(10):
            book = Book(HEAD + "\n".join(rows))
            told = [own_place(book, "a", pair(time)) for time in ("0", "1/2", "1", "2", "5/2", "3", "5")]
            self.assertEqual(told[:6], expected[:6])
            self.assertEqual(told[6], ((6, 1), (49, 2), pair(Fraction(25, 24) + Fraction(1, 3))))
            chance.shuffle(rows)

    def test_without_a_felt_line(self):
        self.assertEqual(own_place(time=(7, 3), name="b", book=Book(TEXT)), ((1, 1), (7, 3), (7, 3)))

    def test_errors_in_their_sequence(self):
        book = Book(TEXT)
        for value in no_names() + ["c", "A", "ab", 0]:
            self.assert_told(NoName, value, own_place, book, value, None)
            self.assert_told(NoName, value, own_place, book, value, (1, 1))
        for value in no_times():
            self.assert_told(BadTime, value, own_place, book, "a", value)


class WithSaying(Raises, unittest.TestCase):
    def test_lines_behind_the_last_one(self):
        for line in (HEARD, PASSED, "heard b 0 left a 0 1/1000", "passed a 5 b 7/2 1"):
            for text in (TEXT, HEAD[:-1], HEAD + FELT):
                book = with_saying(line=line, book=Book(text))
                self.assertIs(type(book), Book)
                self.assertEqual(book.text, f"{text}\n{line}")
                self.assertEqual(len(book), len(Book(text)) + 1)

    def test_lines_that_cannot_stand(self):
        lines = [FELT, "felt b 1 2", "ship c", "book", "", " ", HEARD + "\n", "\n" + HEARD, f"{HEARD}\n{PASSED}", HEARD + " ",
                 " " + HEARD, "heard a 4 right a 1 2", "heard a 4 right c 1 2", "heard c 4 right a 1 2", "passed a 0 a 0 1",
                 "passed a 0 b 0 0", "passed a -1 b 0 1", "heard a 4 up b 1 2", "heard a 4 right b 1 2/4", "heard",
                 "heard a 4 right b 1 2\tx", "Heard a 4 right b 1 2"]
        for value in lines + no_fractions() + [(HEARD,), [HEARD], HEARD.encode(), tuple(HEARD.split(" "))]:
            self.assert_told(BadLine, value, with_saying, Book(TEXT), value)

    def test_a_41st_line(self):
        for rows in ([HEARD] * 40, [f"felt a {k} 2" for k in range(40)], [FELT] + [PASSED] * 39):
            full = Book(HEAD + "\n".join(rows))
            self.assert_told(BadLine, HEARD, with_saying, full, HEARD)
            self.assertEqual(with_saying(Book(HEAD + "\n".join(rows[:39])), HEARD).text, HEAD + "\n".join(rows[:39] + [HEARD]))


class WithoutSaying(Raises, unittest.TestCase):
    def test_each_number(self):
        for text in BOOKS:
            book = Book(text)
            for number in range(len(book)):
                rest = without_saying(number=number, book=book)
                self.assertIs(type(rest), Book)
                self.assertEqual(rest.sayings, book.sayings[:number] + book.sayings[number + 1:])
                self.assertEqual((rest.names, rest.felt, len(rest)), (book.names, book.felt, len(book) - 1))
                lines = text.split("\n")
                at = [k for k, line in enumerate(lines) if line[:5] in ("heard", "passe")][number]
                self.assertEqual(rest.text.split("\n"), lines[:at] + lines[at + 1:])

    def test_there_and_back(self):
        for text in BOOKS:
            if Book(text).names[1:] and len(text.split("\n")) < 40:
                one, other = Book(text).names[:2]
                more = with_saying(Book(text), f"passed {one} 5 {other} 7 2")
                self.assertEqual(without_saying(more, len(more) - 1), Book(text))

    def test_the_same_saying_twice(self):
        book = Book(f"{HEAD}{HEARD}\n{FELT}\n{HEARD}")
        self.assertEqual(without_saying(book, 0).text, f"{HEAD}{FELT}\n{HEARD}")
        self.assertEqual(without_saying(book, 1).text, f"{HEAD}{HEARD}\n{FELT}")

    def test_names_like_words(self):
        text = "book\nship passed\nship heard\nfelt heard 1 2\nfelt passed 1 2\nheard heard 1 left passed 1 1"
        self.assertEqual(without_saying(Book(text), 0).text, text.rsplit("\n", 1)[0])

    def test_what_is_no_number(self):
        for value in [-1, 2, 3, 10 ** 11, True, False, None, "0", (0, 1), [0], (), {}, HEARD]:
            self.assert_told(NoSaying, value, without_saying, Book(TEXT), value)
        self.assert_told(NoSaying, 0, without_saying, Book(HEAD + FELT), 0)


def expected_rows(text):
    """The lines of the book of a sky, from a run worked out another way."""
    movers, flashes = movers_of(text)
    names, rows = [mover.name for mover in movers], []
    for mover in movers:
        felt = {}
        for row in rows_of(mover, movers, flashes):
            if row[1] == "heard":
                _, _, side, name, word, colour = row
                rows.append(f"heard {mover.name} {row[0]} {side} {name} {flashes[word][3]} {colour}")
            elif row[1] == "passed" and names.index(row[2]) > names.index(mover.name):
                other = movers[names.index(row[2])]
                rows.append(f"passed {mover.name} {row[0]} {row[2]} {other.time_where(mover.at(row[0])[0])} {row[3]}")
            elif row[1] == "felt":
                if row[0] not in felt:
                    rows.append(None)
                felt.setdefault(row[0], [len(rows) - 1, Fraction(1)])[1] *= row[2]
        for time, (at, product) in felt.items():
            rows[at] = f"felt {mover.name} {time} {product}"
    return names, rows


class BookOf(Raises, unittest.TestCase):
    def test_random_skies(self):
        kinds, wide = set(), 0
        for text in skies_for_books(22, 150):
            names, rows = expected_rows(text)
            if len(rows) > 40:
                self.assert_number(Wide, len(rows), book_of, Sky(text))
                wide += 1
            else:
                book = book_of(sky=Sky(text))
                self.assertIs(type(book), Book)
                self.assertEqual(book.text.split("\n"), ["book"] + [f"ship {name}" for name in names] + rows)
                kinds |= {row.split(" ")[0] for row in rows}
        self.assertEqual(kinds, {"felt", "heard", "passed"})
        self.assertGreater(wide, 0)

    def test_turns_of_one_time_are_one(self):
        sky = Sky("sky\nship a 0 0 1\nturn 2\nflash p\nturn 3\nfly 1\nturn 2\nturn 1/2\nship b 0 0 1\nturn 5\nfly 1/2\nturn 7")
        self.assertEqual(book_of(sky).text.split("\n"), [
            "book", "ship a", "ship b", "passed a 0 b 0 5/6", "felt a 0 6", "felt a 1 1", "felt b 0 5", "felt b 1/2 7"])

    def test_the_senders_own_time_and_each_passing_once(self):
        lines = ["ship b 2 -2 1", "fly 9", "ship a 0 0 2", "fly 3", "flash p", "fly 9"]
        self.assertEqual(book_of(Sky("\n".join(["sky", *lines]))).text.split("\n"), [
            "book", "ship b", "ship a", "passed b 10/3 a 8/3 2", "heard b 4 right a 3 1/2"])
        lines = lines[2:] + lines[:2]
        self.assertEqual(book_of(Sky("\n".join(["sky", *lines]))).text.split("\n"), [
            "book", "ship a", "ship b", "passed a 8/3 b 10/3 1/2", "heard b 4 right a 3 1/2"])

    def test_words_like_names(self):
        sky = Sky("sky\nship a 0 0 1\nflash b\nship b 2 -2 1\nflash a\nfly 3")
        self.assertEqual(book_of(sky).text, "book\nship a\nship b\nheard b 2 left a 0 1")

    def test_just_40_lines_and_41(self):
        def sky(many):
            rows = ["sky", "ship a 0 0 1"] + ["fly 1", "turn 2"] * 10 + ["ship b 90 -90 1"] + ["fly 1", "turn 2"] * 10
            rows += ["ship c 190 -190 1"] + ["fly 1", "turn 2"] * 10 + ["ship d 290 -290 1"] + ["fly 1", "turn 2"] * many
            return Sky("\n".join(rows))
        self.assertEqual(len(book_of(sky(10)).felt), 40)
        rows = sky(10).text + "\nship e 500 -500 1\nturn 2"
        self.assert_number(Wide, 41, book_of, Sky(rows))
        self.assert_number(Wide, 42, book_of, Sky(rows + "\nfly 1\nturn 2"))
        self.assertEqual(len(book_of(Sky(rows.replace("\nturn 2\nship d", "\nship d"))).felt), 40)

    def test_passings_are_counted_once(self):
        rows = ["sky"] + [line for name in "abcdef" for line in (f"ship {name} 0 0 1", "fly 1")]
        self.assertEqual(len(book_of(Sky("\n".join(rows)))), 15)

    def test_beginnings_and_paces_are_a_placing(self):
        for text in skies_for_books(23, 100):
            for sky in (Sky(text), seen_sky(Sky(text), (3, 7))):
                try:
                    book = book_of(sky)
                except Wide:
                    continue
                self.assertEqual(book, book_of(Sky(text)))
                self.assertIs(is_placing(book, tuple(ship[:3] for ship in sky.ships)), True)


if __name__ == "__main__":
    unittest.main()
