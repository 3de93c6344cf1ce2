import unittest
from fractions import Fraction
from itertools import permutations
from random import Random

from crewclocks.books import Book, book_of, with_saying, without_saying
from crewclocks.errors import NoPaces, NoSaying, Wide
from crewclocks.events import seen, shifted
from crewclocks.fitting import fits, is_placing, least_bars, needless, paces, parts, shows_fits
from crewclocks.skies import Sky
from helpers import Raises, event, near, no_fractions, pair, worth
from oracle_books import Told, random_books, skies_for_books, strayed, true_books

ROWS = ["book", "ship ann", "ship bob", "passed ann 0 bob 0 2", "heard bob 2 left ann 1 1/2", "heard ann 4 right bob 2 1/2"]
GOOD = "\n".join(ROWS)
LATE = "\n".join(ROWS[:5] + ["heard ann 5 right bob 2 1/2"])
RED = "\n".join(ROWS[:4] + ["heard bob 2 left ann 1 1/3"])
HERE = event(0, 0)
TWO = "book\nship a\nship b\n"


def some_books():
    chance = Random(31)
    texts = random_books(31, 200) + random_books(32, 80, ships=2, most=4) + random_books(33, 80, ships=3, most=5)
    texts += true_books(39, 60) + [strayed(text, chance) for text in true_books(39, 60)]
    for text in skies_for_books(34, 60):
        rows = 0
        try:
            rows = book_of(Sky(text)).text
        except Wide:
            continue
        texts.extend([rows, strayed(rows, chance)])
    return texts


BOOKS = some_books()
ODD = [None, True, False, 0, 1, "", "placing", (), [], {}, (None,), ("placing",), ("colours",), ("short",), ("short", "u")]


def fits_by_hand(text, placing):
    """Whether all sayings of the book are so, by Python's fractions."""
    told = Told(text)
    where = {name: (worth(at[0]), worth(at[1]), worth(pace)) for name, at, pace in placing}

    def there(name, time):
        u, v, first = where[name]
        pace, own_u, own_v = told.own(name, time)
        return u + own_u * first, v + own_v / first, pace * first

    for words in told.sayings:
        name, time, other, its_time = told.both(words)
        u, v, pace = there(name, time)
        its_u, its_v, its_pace = there(other, its_time)
        factor = Fraction(words[-1])
        if words[0] == "passed":
            so = (u, v) == (its_u, its_v) and its_pace / pace == factor
        elif words[3] == "left":
            so = v == its_v and u > its_u and its_pace / pace == factor
        else:
            so = u == its_u and v > its_v and pace / its_pace == factor
        if not so:
            return False
    return True


def ring_by_hand(text, ring):
    """(factor, worth in u, worth in v, whether each can go, whether each has a strict step) of a ring."""
    told = Told(text)
    ships, pace, factor = [], Fraction(1), Fraction(1)
    sums, goes, strict = {"u": Fraction(0), "v": Fraction(0)}, {"u": True, "v": True}, {"u": False, "v": False}
    for number, way in ring:
        words = told.sayings[number]
        name, time, other, its_time = told.both(words)
        begin, end = (other, name) if way == 1 else (name, other)
        if ships:
            assert ships[-1][1] == begin
        ships.append((begin, end))
        step = told.ratio(words) if way == 1 else 1 / told.ratio(words)
        after = pace * step
        at = {begin: pace, end: after}
        for plane in "uv":
            gap = told.place(at, other, its_time, plane) - told.place(at, name, time, plane)
            sums[plane] += gap * way
            if words[0] == "heard" and (words[3] == "left") == (plane == "u"):
                strict[plane] = True
                goes[plane] = goes[plane] and way == 1
        pace, factor = after, factor * step
    assert ships[-1][1] == ships[0][0]
    assert len({begin for begin, _ in ships}) == len(ships) == len({number for number, _ in ring}) >= 2
    return factor, sums, goes, strict


def bars_by_hand(text, told):
    factor, sums, goes, strict = ring_by_hand(text, told[-1])
    if told[0] == "colours":
        return factor != 1
    plane = told[1]
    return factor == 1 and goes[plane] and (sums[plane] > 0 or (sums[plane] == 0 and strict[plane]))


def turned(ring, by):
    return ring[by:] + ring[:by]


def contrary(ring):
    return tuple((number, -way) for number, way in reversed(ring))


class Fits(unittest.TestCase):
    def test_just_one_of_both(self):
        words = {}
        for text in BOOKS:
            told = fits(Book(text))
            words[told[0]] = words.get(told[0], 0) + 1
            self.assertEqual(told[0] == "placing", Told(text).fits(), text)
            self.assertIs(shows_fits(Book(text), told), True)
            self.assertEqual(fits(book=Book(text)), told)
            if told[0] == "placing":
                self.assertIs(is_placing(Book(text), told[1]), True)
                self.assertTrue(fits_by_hand(text, told[1]))
            else:
                self.assertTrue(bars_by_hand(text, told))
        self.assertEqual(set(words), {"placing", "colours", "short"})
        self.assertGreater(min(words.values()), 30)

    def test_kinds(self):
        for text in (GOOD, LATE, RED):
            told = fits(Book(text))
            self.assertIs(type(told), tuple)
            self.assertIs(type(told[-1]), tuple)
            self.assertTrue(all(type(row) is tuple for row in told[-1]))

    def test_without_sayings_and_of_one_ship(self):
        for text in ("book\nship a", "book\nship a\nfelt a 0 2\nfelt a 3 1/2", "book\nship a\nship b\nship c", TWO + "felt b 1 2"):
            word, placing = fits(Book(text))
            self.assertEqual(word, "placing")
            self.assertEqual([row[0] for row in placing], list(Book(text).names))
            self.assertTrue(shows_fits(Book(text), ("placing", tuple(
                (name, event(k, -k), (k + 1, 1)) for k, name in enumerate(Book(text).names)))))

    def test_remarks_of_section_10(self):
        self.assertEqual([fits(Book("\n".join(ROWS[:5] + [row])))[0] for row in
                          ("heard ann 4 right bob 2 1/2", "heard ann 5 right bob 2 1/2", "heard ann 3 right bob 2 1/2")],
                         ["placing", "short", "short"])
        without = Book("\n".join(ROWS[:3] + [ROWS[4], "heard ann 5 right bob 2 1/2"]))
        word, placing = fits(without)
        self.assertEqual(word, "placing")
        self.assertGreater(worth(placing[1][1][0]), worth(placing[0][1][0]))

    def test_rings_that_bar_by_their_factor(self):
        self.assertIs(shows_fits(Book(RED), ("colours", ((0, 1), (1, 1)))), True)
        text = "book\nship a\nship b\nship c\nship d\npassed b 0 a 0 2\npassed b 1 c 1 3\npassed c 0 d 0 5\npassed d 3 a 3 1/7"
        word, ring = fits(Book(text))
        self.assertEqual((word, len(ring)), ("colours", 4))
        self.assertEqual(fits(Book(text.replace("1/7", "2/15")))[0], "short")
        text = TWO + "felt a 1 2\nheard a 0 left b 0 3\nheard a 2 left b 2 3"
        self.assertEqual(fits(Book(text))[0], "colours")
        self.assertEqual(fits(Book(text.replace("b 2 3", "b 4 3/2")))[0], "short")
        self.assertEqual(fits(Book(text.replace("felt a 1 2\n", "").replace("b 2 3", "b 6 3")))[0], "placing")

    def test_short_in_u_and_in_v(self):
        # Heard from the left at one colour: v's of sending and of hearing are alike, u's are not.
        short_in_v = Book(TWO + "heard b 1 left a 1 1\nheard b 3 left a 1 1")
        self.assertEqual(fits(short_in_v)[:2], ("short", "v"))
        short_in_u = Book(TWO + "heard b 1 right a 1 1\nheard b 3 right a 1 1")
        self.assertEqual(fits(short_in_u)[:2], ("short", "u"))
        # Each hears the other one from the left.
        both = Book(TWO + "heard b 1 left a 1 1\nheard a 1 left b 1 1")
        word, plane, ring = fits(both)
        self.assertEqual((word, plane), ("short", "u"))
        self.assertFalse(shows_fits(both, ("short", "v", ring)))

    def test_strict_steps_of_sum_0(self):
        # A passing and a hearing of the same moments: nobody hears a flash at its own event.
        for side, plane in (("left", "u"), ("right", "v")):
            book = Book(TWO + f"passed b 2 a 1 1\nheard b 2 {side} a 1 1")
            self.assertEqual(fits(book)[:2], ("short", plane))
            for ring in (((0, -1), (1, 1)), ((1, 1), (0, -1))):
                self.assertIs(shows_fits(book, ("short", plane, ring)), True)
                self.assertIs(shows_fits(book, ("short", "uv".replace(plane, ""), ring)), False)
                self.assertIs(shows_fits(book, ("short", plane, contrary(ring))), False)
            self.assertEqual(least_bars(book), ((0, 1),))
        # From both sides at once: no event is heard from both.
        book = Book(TWO + "heard b 2 left a 1 1\nheard b 2 right a 1 1")
        self.assertEqual(fits(book)[0], "short")
        self.assertEqual([shows_fits(book, ("short", plane, ring)) for plane in "uv" for ring in (((0, 1), (1, -1)), ((1, 1), (0, -1)))],
                         [True, False, False, True])

    def test_the_same_saying_twice(self):
        for line in ("passed b 2 a 1 3", "heard b 2 left a 1 3", "heard a 5 right b 7 1/3"):
            book = Book(TWO + f"{line}\n{line}")
            self.assertEqual(fits(book)[0], "placing")
            for ring in (((0, 1), (1, -1)), ((0, -1), (1, 1))):
                for value in (("colours", ring), ("short", "u", ring), ("short", "v", ring)):
                    self.assertIs(shows_fits(book, value), False)

    def test_both_planes_know_nothing_of_one_another(self):
        book = Book("book\nship a\nship b\nship c\nheard b 0 left a 1 1\nheard c 0 left b 1 1\nheard a 9 right c 3 1")
        self.assertEqual(fits(book)[0], "placing")
        placing = {name: at for name, at, _ in fits(book)[1]}
        self.assertEqual(worth(placing["b"][1]) - worth(placing["a"][1]), 1)
        self.assertGreater(worth(placing["b"][0]) - worth(placing["a"][0]), 1)

    def test_many_strict_steps_within_little_room(self):
        # In u: a, b, c, d one to the right of the other, and d to the left of e, which is a bit to the right of a.
        rows = ["book"] + [f"ship {name}" for name in "abcde"]
        rows += [f"heard {other} 1 left {name} 1 1" for name, other in ("ab", "bc", "cd")]
        for room in ("1/100", "2/7", "1", "3", "999999999999/1000000000000"):
            more = Fraction(room) + 1
            for last in ("heard e 1 left d 1 1", ""):
                text = "\n".join(rows + [f"heard a {more} right e 1 1"] + ([last] if last else []))
                told = fits(Book(text))
                self.assertEqual(told[0] == "placing", Told(text).fits())
                self.assertIs(shows_fits(Book(text), told), True, text)

    def test_names_lines_and_sides_otherwise(self):
        chance = Random(35)
        for text in BOOKS[::2]:
            lines = text.split("\n")
            many = len(Book(text).names)
            ships, tail = lines[1:many + 1], lines[many + 1:]
            chance.shuffle(ships)
            chance.shuffle(tail)
            word = fits(Book(text))[0]
            self.assertEqual(fits(Book("\n".join(["book"] + ships + tail)))[0] == "placing", word == "placing")
            called = [" ".join("z" + part if part in Book(text).names else part for part in line.split(" ")) for line in lines]
            self.assertEqual(fits(Book("\n".join(called)))[0], word)
            other = Book("\n".join(mirrored_line(line) for line in lines))
            found = fits(other)
            self.assertEqual(found[0], word)
            if word == "placing":
                glass = tuple((name, (v, u), (pace[1], pace[0])) for name, (u, v), pace in found[1])
                self.assertIs(is_placing(Book(text), glass), True)
            elif word == "short":
                self.assertIs(shows_fits(Book(text), ("short", "v" if found[1] == "u" else "u", found[2])), True)
            else:
                self.assertIs(shows_fits(Book(text), found), True)

    def test_never_both(self):
        # Rings near those that bar, and all rings of two, beside books that fit.
        for text in BOOKS:
            book = Book(text)
            if fits(book)[0] != "placing":
                continue
            numbers = range(min(len(book), 5))
            for one, other in permutations(numbers, 2):
                for ring in (((one, 1), (other, 1)), ((one, 1), (other, -1)), ((one, -1), (other, -1))):
                    for value in (("colours", ring), ("short", "u", ring), ("short", "v", ring)):
                        self.assertIs(shows_fits(book, value), False)

    def test_books_of_runs(self):
        for text in skies_for_books(36, 120):
            sky = Sky(text)
            try:
                book = book_of(sky)
            except Wide:
                continue
            placing = tuple(ship[:3] for ship in sky.ships)
            for pace, by in (((1, 1), event(0, 0)), ((3, 2), event("1/3", -5)), ((1, 7), event(8, 0))):
                value = tuple((name, shifted(seen(at, pace), by), pair(worth(own) / worth(pace))) for name, at, own in placing)
                self.assertIs(is_placing(book, value), True)
                self.assertIs(shows_fits(book, ("placing", value)), True)
            self.assertEqual(fits(book)[0], "placing")

    def test_six_ships_and_forty_lines(self):
        chance = Random(37)
        for _ in range(5):
            text = random_books(chance.randint(0, 10 ** 6), 1, ships=6, most=0)[0]
            lines = text.split("\n")
            while len(lines) < 47:
                name, other = chance.sample("abcdef", 2)
                lines.append(f"heard {name} {chance.randint(10 ** 10, 10 ** 12 - 1)}/{2 ** 39} "
                             f"left {other} {chance.randint(1, 10 ** 11) * 2 + 1}/{2 ** 38} 1")
            lines = [line for line in lines if is_line(line)][:47]
            told = fits(Book("\n".join(lines)))
            self.assertIs(shows_fits(Book("\n".join(lines)), told), True)


def is_line(line):
    return all("/" not in word or str(Fraction(word)) == word for word in line.split(" "))


def mirrored_line(line):
    """The same saying with both sides exchanged."""
    words = line.split(" ")
    if words[0] in ("felt", "passed"):
        words[-1] = str(1 / Fraction(words[-1]))
    elif words[0] == "heard":
        words[3] = {"left": "right", "right": "left"}[words[3]]
    return " ".join(words)


class IsPlacing(unittest.TestCase):
    def test_values_near_right_ones(self):
        book = Book(GOOD)
        right = (("ann", HERE, (1, 1)), ("bob", HERE, (2, 1)))
        self.assertIs(is_placing(book, right), True)
        self.assertIs(is_placing(value=right, book=book), True)
        for value in near(right):
            self.assertIs(is_placing(book, value), False, value)
            self.assertIs(shows_fits(book, ("placing", value)), False)
        for value in near(("placing", right)):
            self.assertIs(shows_fits(book, value), False, value)

    def test_strict_places(self):
        book = Book(TWO + "heard b 1 left a 1 1")
        for more, expected in ((-1, False), (0, False), ("1/1000000", True), (9, True)):
            self.assertIs(is_placing(book, (("a", HERE, (1, 1)), ("b", event(more, 0), (1, 1)))), expected)
        book = Book(TWO + "heard b 1 right a 1 1")
        for more, expected in ((-1, False), (0, False), ("1/1000000", True), (9, True)):
            self.assertIs(is_placing(book, (("a", HERE, (1, 1)), ("b", event(0, more), (1, 1)))), expected)
            self.assertIs(is_placing(book, (("a", HERE, (1, 1)), ("b", event("1/9", more), (1, 1)))), False)

    def test_values_of_any_kind(self):
        for text in ("book\nship a", GOOD, LATE):
            for value in no_fractions() + ODD + [Book(text), text, [("a", HERE, (1, 1))], (["a", HERE, (1, 1)],), {"a": HERE},
                                                 (("b", HERE, (1, 1)),), (("a", HERE),), (("a", HERE, (1, 1), 1),), ("a", HERE, (1, 1)),
                                                 (("a", HERE, (0, 1)),), (("a", HERE, (2, 2)),), (("a", (0, 0), (1, 1)),),
                                                 (("a", HERE, (True, 1)),), (("a", ((0, 1), (False, 1)), (1, 1)),)]:
                self.assertIs(is_placing(Book(text), value), False, value)
                self.assertIs(shows_fits(Book(text), value), False, value)
                self.assertIs(shows_fits(Book(text), ("placing", value)), False, value)
        self.assertIs(is_placing(Book("book\nship a"), (("a", HERE, (1, 1)),)), True)

    def test_random_placings(self):
        chance, right = Random(38), 0
        for text in BOOKS:
            told = fits(Book(text))
            if told[0] == "placing":
                for _ in range(3):
                    rows = [list(row) for row in told[1]]
                    row = chance.choice(rows)
                    if chance.random() < 0.5:
                        row[1] = shifted(row[1], event(chance.choice([0, 1, "-1/2"]), chance.choice([0, 1, "-1/3"])))
                    else:
                        row[2] = pair(worth(row[2]) * chance.choice([1, 2]))
                    value = tuple(tuple(row) for row in rows)
                    self.assertIs(is_placing(Book(text), value), fits_by_hand(text, value))
                    right += fits_by_hand(text, value)
        self.assertGreater(right, 30)


    def test_a_passing_with_another_factor(self):
        book = Book(TWO + "passed b 0 a 0 1/2")
        for pace, expected in (((2, 1), True), ((1, 1), False), ((1, 2), False)):
            self.assertIs(is_placing(book, (("a", HERE, (1, 1)), ("b", HERE, pace))), expected)

    def test_words_more(self):
        right = (("ann", HERE, (1, 1)), ("bob", HERE, (2, 1)))
        for value in (("placing", "u", right), ("placing", None, right), ("placing", right, right), ("short", right)):
            self.assertIs(shows_fits(Book(GOOD), value), False)


class Rings(unittest.TestCase):
    def test_begun_elsewhere_turned_about_a_step_out_twice(self):
        many = 0
        for text in BOOKS:
            book, told = Book(text), fits(Book(text))
            if told[0] == "placing":
                continue
            many += 1
            head, ring = told[:-1], told[-1]
            for by in range(len(ring)):
                self.assertIs(shows_fits(book, head + (turned(ring, by),)), True)
                back = head + (turned(contrary(ring), by),)
                self.assertIs(shows_fits(book, back), bars_by_hand(text, back))
            if told[0] == "colours":
                self.assertIs(shows_fits(book, ("colours", contrary(ring))), True)
            for value in (ring + ring, ring + ring[:1], (), ring[:1], list(ring), (ring,), ring + ((ring[0][0], -ring[0][1]),)):
                self.assertIs(shows_fits(book, head + (value,)), False)
            for k in range(len(ring)):
                self.assertIs(shows_fits(book, head + (ring[:k] + ring[k + 1:],)), False)
                number, way = ring[k]
                for step in ((number, -way), (number, 0), (number, 2), (number, None), (number, str(way)), (number,), number,
                             (-1, way), (len(book), way), (None, way), (number, way, 1), [number, way], (str(number), way)):
                    value = head + (ring[:k] + (step,) + ring[k + 1:],)
                    self.assertIs(shows_fits(book, value), False, value)
                if way == 1:
                    self.assertIs(shows_fits(book, head + (ring[:k] + ((number, True),) + ring[k + 1:],)), False)
                if number in (0, 1):
                    self.assertIs(shows_fits(book, head + (ring[:k] + ((bool(number), way),) + ring[k + 1:],)), False)
            for value in (("colours", ring), ("short", "u", ring), ("short", "v", ring)):
                self.assertIs(shows_fits(book, value), bars_by_hand(text, value))
            for value in (("short", ring), ("short", "w", ring), ("short", None, ring), ("Short", "u", ring), ("colours", "u", ring),
                          ("colour", ring), (None, ring), ("placing", ring), [*head, ring], head + (ring, None), ring):
                self.assertIs(shows_fits(book, value), False)
        self.assertGreater(many, 100)

    def test_ending_elsewhere(self):
        book = Book("book\nship a\nship b\nship c\npassed b 0 a 0 2\npassed c 0 b 0 2\npassed c 1 b 1 5")
        self.assertIs(shows_fits(book, ("colours", ((1, 1), (2, -1)))), True)
        for ring in (((0, 1), (1, 1), (2, -1)), ((1, 1), (2, -1), (0, -1)), ((0, 1),), ((1, 1),), ((0, 1), (1, 1))):
            self.assertIs(shows_fits(book, ("colours", ring)), False)

    def test_ships_called_like_sides(self):
        rows = ["book", "ship left", "ship right", "passed left 2 right 2 3", "heard right 5 left left 1 1/3"]
        book = Book("\n".join(rows))
        self.assertEqual(paces(book), (("left", (1, 1)), ("right", (3, 1))))
        self.assertEqual(fits(book)[0] == "placing", Told(book.text).fits())
        self.assertIs(shows_fits(book, ("colours", ((0, 1), (1, 1)))), False)

    def test_ships_twice(self):
        # A walk of two rings that share a ship is no ring.
        book = Book("book\nship a\nship b\nship c\npassed b 0 a 0 2\npassed b 1 a 1 3\npassed c 0 b 0 2\npassed c 1 b 1 5")
        self.assertIs(shows_fits(book, ("colours", ((0, 1), (1, -1)))), True)
        self.assertIs(shows_fits(book, ("colours", ((2, 1), (3, -1)))), True)
        self.assertIs(shows_fits(book, ("colours", ((0, 1), (2, 1), (3, -1), (1, -1)))), False)

    def test_a_saying_to_and_fro(self):
        book = Book(TWO + "passed b 0 a 0 2\npassed b 1 a 1 3")
        self.assertIs(shows_fits(book, ("colours", ((0, 1), (0, -1)))), False)
        self.assertIs(shows_fits(book, ("short", "u", ((0, 1), (0, -1)))), False)


class Parts(unittest.TestCase):
    def test_random_books(self):
        for text in BOOKS:
            self.assertEqual(parts(Book(text)), Told(text).parts())

    def test_as_they_stand(self):
        rows = ["book"] + [f"ship {name}" for name in "fbdace"]
        self.assertEqual(parts(Book("\n".join(rows))), tuple((name,) for name in "fbdace"))
        rows += ["heard c 1 left b 1 1", "passed a 0 c 0 1", "heard e 3 right f 9 2"]
        self.assertEqual(parts(book=Book("\n".join(rows))), (("f", "e"), ("b", "a", "c"), ("d",)))

    def test_also_of_books_without_a_placing(self):
        self.assertEqual(parts(Book(RED)), (("ann", "bob"),))


class Paces(unittest.TestCase):
    def test_random_books(self):
        for text in BOOKS:
            book, expected = Book(text), Told(text).paces()
            if expected is None:
                with self.assertRaises(NoPaces) as caught:
                    paces(book)
                self.assertTrue(bars_by_hand(text, ("colours", caught.exception.value)))
                self.assertIs(shows_fits(book, ("colours", caught.exception.value)), True)
            else:
                self.assertEqual(paces(book), tuple((name, pair(expected[name])) for name in book.names))

    def test_of_a_book_that_is_short(self):
        self.assertEqual(paces(book=Book(LATE)), (("ann", (1, 1)), ("bob", (2, 1))))

    def test_ahead_of_a_turn_at_0(self):
        self.assertEqual(paces(Book(TWO + "felt b 0 3\nfelt a 0 5\npassed b 0 a 0 1")), (("a", (1, 1)), ("b", (5, 3))))
        self.assertEqual(paces(Book(TWO + "felt b 2 3\nheard b 2 left a 0 2")), (("a", (1, 1)), ("b", (1, 6))))
        self.assertEqual(paces(Book(TWO + "felt b 2 3\nheard b 1 right a 0 2")), (("a", (1, 1)), ("b", (2, 1))))

    def test_first_ships_of_parts(self):
        book = Book("book\nship a\nship b\nship c\nship d\npassed b 0 d 0 3")
        self.assertEqual(paces(book), (("a", (1, 1)), ("b", (1, 1)), ("c", (1, 1)), ("d", (3, 1))))


class Needless(Raises, unittest.TestCase):
    def test_random_books(self):
        found = set()
        for text in [text for text in BOOKS if len(Book(text)) <= 5][::2]:
            told = Told(text)
            for number in range(len(told.sayings)):
                answer = needless(Book(text), number)
                self.assertIs(answer, told.needless(number), (text, number))
                found.add((answer, told.fits()))
        self.assertEqual(found, {(True, True), (False, True), (True, False), (False, False)})

    def test_by_its_meaning(self):
        book = Book(GOOD)
        self.assertEqual([needless(number=number, book=book) for number in range(3)], [True] * 3)
        rest = without_saying(without_saying(book, 0), 0)
        self.assertIs(needless(rest, 0), False)
        self.assertIs(needless(with_saying(rest, rest.text.split("\n")[-1]), 0), True)

    def test_strict_ones(self):
        # c is to the right of b, b to the right of a, so c is to the right of a.
        rows = "book\nship a\nship b\nship c\nheard b 1 left a 1 1\nheard c 1 left b 1 1\nheard c 1 left a 1 1"
        self.assertEqual([needless(Book(rows), number) for number in range(3)], [False, False, True])
        self.assertEqual([needless(Book(rows[:-1] + "2"), number) for number in range(3)], [False] * 3)

    def test_one_that_the_others_contradict(self):
        book = Book(TWO + "passed b 2 a 1 1\nheard b 2 left a 1 1")
        self.assertEqual([needless(book, number) for number in (0, 1)], [False, False])
        book = Book(TWO + "passed b 2 a 1 1\nheard b 2 right a 1 1")
        self.assertEqual([needless(book, number) for number in (0, 1)], [False, False])

    def test_beside_others_that_no_placing_fits(self):
        book = Book(TWO + "passed a 0 b 0 1\npassed a 1 b 2 1\npassed a 1 b 3 1")
        self.assertEqual([needless(book, number) for number in range(3)], [True] * 3)

    def test_no_number(self):
        for value in [-1, 3, 10 ** 11, True, False, None, "0", (0, 1), [0], (), {}]:
            self.assert_told(NoSaying, value, needless, Book(GOOD), value)


class LeastBars(Raises, unittest.TestCase):
    def test_random_books(self):
        many = {}
        for text in [text for text in BOOKS if len(Book(text)) <= 6][::2]:
            told = least_bars(Book(text))
            self.assertEqual(told, Told(text).least_bars(), text)
            self.assertEqual(told == (), fits(Book(text))[0] == "placing")
            many[min(len(told), 3)] = many.get(min(len(told), 3), 0) + 1
        self.assertEqual(set(many), {0, 1, 2, 3})

    def test_lots_are_the_sayings_of_rings(self):
        for text in [text for text in BOOKS if len(Book(text)) <= 10]:
            book = Book(text)
            for lot in least_bars(book):
                self.assertEqual(lot, tuple(sorted(lot)))
                rest = book
                for number in reversed(range(len(book))):
                    if number not in lot:
                        rest = without_saying(rest, number)
                told = fits(rest)
                self.assertNotEqual(told[0], "placing")
                self.assertEqual(sorted(number for number, _ in told[-1]), list(range(len(lot))))
                for number in range(len(lot)):
                    self.assertEqual(fits(without_saying(rest, number))[0], "placing")

    def test_several_lots(self):
        text = TWO + "passed a 0 b 0 1\npassed a 1 b 2 1\npassed a 1 b 1 2\npassed a 5 b 5 1"
        self.assertEqual(least_bars(book=Book(text)), ((0, 1), (0, 2), (1, 2), (1, 3), (2, 3)))

    def test_ten_and_more(self):
        for many in (10, 11, 40):
            book = Book(TWO + "\n".join(["passed a 1 b 2 1"] * many))
            if many == 10:
                self.assertEqual(least_bars(book), ())
            else:
                self.assert_number(Wide, many, least_bars, book)
        rows = [f"passed a 0 b {number} 1" for number in range(10)]
        self.assertEqual(least_bars(Book(TWO + "\n".join(rows))),
                         tuple((one, other) for one in range(10) for other in range(one + 1, 10)))

    def test_felt_lines_do_not_count(self):
        rows = [f"felt a {number} 2" for number in range(1, 25)] + ["passed a 0 b 0 1"] * 10
        self.assertEqual(least_bars(Book(TWO + "\n".join(rows))), ())


if __name__ == "__main__":
    unittest.main()
