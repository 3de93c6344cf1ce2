"""The examples of the document, as they stand, and those of README.md."""

import doctest
import pathlib
import unittest

README = pathlib.Path(__file__).resolve().parent.parent / "README.md"

SECTION_4 = r"""
>>> from crewclocks.events import mirrored, own_square, seen, sequence, shifted, shows_sequence, together
>>> here, there, aside = ((0, 1), (0, 1)), ((4, 1), (9, 1)), ((4, 1), (-1, 1))
>>> [sequence(here, there), sequence(there, here), sequence(aside, there), sequence(here, here)]
[('ahead',), ('behind',), ('ahead',), ('same',)]
>>> [sequence(here, aside)[0], shows_sequence(here, aside, ('either', (1, 1), (3, 1))), shows_sequence(here, aside, ('either', (2, 1), (3, 1)))]
['either', True, False]
>>> [together((2, 1), here, aside), together((1, 1), here, aside), own_square(here, there)]
[True, False, (36, 1)]
>>> [seen(there, (2, 3)), own_square(here, seen(there, (2, 3))), shifted(aside, ((1, 2), (1, 1))), mirrored(aside)]
[((6, 1), (6, 1)), (36, 1), ((9, 2), (0, 1)), ((-1, 1), (4, 1))]
"""

SECTION_5 = r"""
>>> from crewclocks.flights import cut, Flight, joined, seen_flight, slack, when
>>> ship = Flight('flight 0 0 1\nfly 2\nturn 2\nfly 3\nturn 1/4\nfly 4')
>>> [ship.pieces, ship.whole, ship.goal]
[(((1, 1), (2, 1)), ((2, 1), (3, 1)), ((1, 2), (4, 1))), (9, 1), ((10, 1), (23, 2))]
>>> [ship.at((3, 1)), ship.pace_at((2, 1)), ship.pace_at((9, 1)), when(ship, ((8, 1), (7, 2))), when(ship, ((3, 1), (3, 1)))]
[((4, 1), (5, 2)), (2, 1), (1, 2), (5, 1), None]
>>> [seen_flight(ship, (2, 1)).goal, joined(ship, Flight('flight 0 0 5\nfly 1')).goal, slack(ship)]
[((5, 1), (23, 1)), ((21, 2), (27, 2)), (34, 1)]
>>> [part.text.split('\n') for part in cut(ship, (3, 1))]
[['flight 0 0 1', 'fly 2', 'turn 2', 'fly 1'], ['flight 4 5/2 2', 'fly 2', 'turn 1/4', 'fly 4']]
>>> [part.text.split('\n') for part in cut(ship, (2, 1))]
[['flight 0 0 1', 'fly 2'], ['flight 2 2 2', 'fly 3', 'turn 1/4', 'fly 4']]
"""

SECTION_6 = r"""
>>> from crewclocks.flashes import colour, heard, thrown, thrown_plain, told_first
>>> from crewclocks.flights import Flight
>>> flight = Flight('flight 0 0 1\nfly 4\nturn 2\nfly 3')
>>> [flight.at((4, 1)), flight.at((7, 1))]
[((4, 1), (4, 1)), ((10, 1), (11, 2))]
>>> [heard(flight, ((2, 1), (5, 1))), heard(flight, ((6, 1), (3, 1))), heard(flight, ((3, 1), (3, 1))), heard(flight, ((20, 1), (0, 1)))]
[('left', (6, 1)), ('right', (5, 1)), None, None]
>>> [colour('left', (1, 1), (2, 1)), colour('right', (1, 1), (2, 1))]
[(1, 2), (2, 1)]
>>> [told_first(flight, event) for event in (((6, 1), (3, 1)), ((0, 1), (5, 1)), ((3, 1), (3, 1)), ((20, 1), (0, 1)), ((-1, 1), (-2, 1)))]
[(5, 1), (6, 1), (3, 1), None, (0, 1)]
>>> [thrown_plain((3, 1), (3, 2), 2), thrown((3, 1), (3, 2), 2, 7), thrown((3, 1), (3, 2), 10 ** 18, 7)]
[(27, 4), 5, 6]
"""

SECTION_7 = r"""
>>> from crewclocks.runs import run, why
>>> from crewclocks.skies import Sky, mirrored_sky, renamed, seen_sky, shifted_sky
>>> talk = Sky('sky\nship a 0 0 1\nflash p\nuntil right q\nfly 1\nship b 2 -2 1\nuntil left p\nturn 2\nflash q\nfly 3')
>>> run(talk)[0]
('a', 'flight 0 0 1\nfly 4\nfly 1', 3, (((0, 1), 'sent', 'p'), ((4, 1), 'heard', 'right', 'b', 'q', (1, 2))))
>>> run(talk)[1][1:3]
('flight 2 -2 1\nfly 2\nturn 2\nfly 3', 4)
>>> run(talk)[1][3]
(((2, 1), 'heard', 'left', 'a', 'p', (1, 2)), ((2, 1), 'felt', (2, 1)), ((2, 1), 'sent', 'q'))
>>> cross = Sky('sky\nship d 0 0 2\nfly 5\nship e 3 -3 1\nfly 6')
>>> [log for name, flight, done, log in run(cross)]
[(((4, 1), 'passed', 'e', (1, 2)),), (((5, 1), 'passed', 'd', (2, 1)),)]
>>> shy = Sky('sky\nship x 0 0 1\nuntil right m\nflash n\nship y 4 -4 1\nuntil left n\nflash m\nship z 9 -9 1\nuntil right m\nship w 0 0 1/3')
>>> [why(shy, name) for name in ('x', 'y', 'z', 'w')]
[('stuck', 'y'), ('stuck', 'x'), ('stuck', 'y'), ('done',)]
>>> [why(Sky('sky\nship a 0 0 1\nflash p\nship b 2 -2 1\nuntil right p'), 'b'), why(Sky('sky\nship a 0 0 1\nuntil left p'), 'a')]
[('passed', 'p'), ('unsent', 'p')]
>>> [mirrored_sky(cross).text, renamed(cross, ('m', 'd')).names, shifted_sky(cross, ((1, 2), (0, 1))).ships[0][1], seen_sky(cross, (2, 1)).ships[1][1:3]]
['sky\nship d 0 0 1/2\nfly 5\nship e -3 3 1\nfly 6', ('m', 'd'), ((1, 2), (0, 1)), (((3, 2), (-6, 1)), (1, 2))]
"""

SECTION_8 = r"""
>>> from crewclocks.changes import edge, edited, kept, run_again, unlike_rows
>>> from crewclocks.runs import run
>>> from crewclocks.skies import Sky
>>> two = Sky('sky\nship a 0 0 1\nfly 1\nflash x\nfly 4\nship b 1 -1 1\nuntil left x\nflash y\nfly 1')
>>> [run(two)[0][3], run(two)[1][3]]
[(((1, 1), 'sent', 'x'), ((3, 1), 'heard', 'right', 'b', 'y', (1, 1))), (((2, 1), 'heard', 'left', 'a', 'x', (1, 1)), ((2, 1), 'sent', 'y'))]
>>> still = ('drop', 'b', 1)
>>> [edge(two, still), kept(two, still), unlike_rows(two, edited(two, still))]
[((3, 1), (1, 1)), (('a', 1), ('b', 0)), (('a', 1), ('b', 1))]
>>> quick = ('add', 'a', 1, 'turn 2')
>>> [edge(two, quick), kept(two, quick), run_again(two, quick, run(two))[1][3][0]]
[((1, 1), (1, 1)), (('a', 0), ('b', 0)), ((2, 1), 'heard', 'left', 'a', 'x', (2, 1))]
"""

SECTION_9 = r"""
>>> from crewclocks.books import Book, book_of, own_place, with_saying, without_saying
>>> from crewclocks.skies import Sky
>>> book = Book('book\nship a\nship b\nfelt a 2 3/2\nheard a 4 right b 1 2\npassed a 0 b 0 1/2')
>>> [book.names, book.felt, book.sayings[0], len(book)]
[('a', 'b'), (('a', (2, 1), (3, 2)),), ('heard', 'a', (4, 1), 'right', 'b', (1, 1), (2, 1)), 2]
>>> [own_place(book, 'a', time) for time in ((0, 1), (2, 1), (4, 1))]
[((1, 1), (0, 1), (0, 1)), ((3, 2), (2, 1), (2, 1)), ((3, 2), (5, 1), (10, 3))]
>>> without_saying(book, 0).text == 'book\nship a\nship b\nfelt a 2 3/2\npassed a 0 b 0 1/2'
True
>>> with_saying(book, 'passed b 3 a 1/2 2').sayings[-1]
('passed', 'b', (3, 1), 'a', (1, 2), (2, 1))
>>> sky = Sky('sky\nship a 0 0 1\nflash x\nfly 4\nship b 2 -2 2\nfly 5\nturn 1/2\nturn 3')
>>> book_of(sky).text.split('\n')
['book', 'ship a', 'ship b', 'heard b 4 left a 0 1/2', 'felt b 5 3/2']
"""

SECTION_10 = r"""
>>> from crewclocks.books import Book
>>> from crewclocks.fitting import fits, is_placing, least_bars, needless, paces, parts, shows_fits
>>> rows = ['book', 'ship ann', 'ship bob', 'passed ann 0 bob 0 2', 'heard bob 2 left ann 1 1/2', 'heard ann 4 right bob 2 1/2']
>>> book = Book('\n'.join(rows))
>>> here = ((0, 1), (0, 1))
>>> [fits(book)[0], parts(book), paces(book), least_bars(book)]
['placing', (('ann', 'bob'),), (('ann', (1, 1)), ('bob', (2, 1))), ()]
>>> [is_placing(book, (('ann', here, (1, 1)), ('bob', here, (2, 1)))), is_placing(book, (('ann', here, (1, 1)), ('bob', here, (3, 1))))]
[True, False]
>>> is_placing(book, (('ann', ((7, 1), (-1, 1)), (1, 2)), ('bob', ((7, 1), (-1, 1)), (1, 1))))
True
>>> [needless(book, number) for number in (0, 1, 2)]
[True, True, True]
>>> late = Book('\n'.join(rows[:5] + ['heard ann 5 right bob 2 1/2']))
>>> [fits(late)[0], [shows_fits(late, ('short', plane, ((0, 1), (2, -1)))) for plane in 'uv'], least_bars(late)]
['short', [True, False], ((0, 2),)]
>>> red = Book('\n'.join(rows[:4] + ['heard bob 2 left ann 1 1/3']))
>>> [fits(red)[0], shows_fits(red, ('colours', ((0, 1), (1, 1)))), shows_fits(red, ('colours', ((1, -1), (0, -1))))]
['colours', True, True]
"""

SECTION_11 = r"""
>>> from crewclocks.books import Book
>>> from crewclocks.gaps import gap, one_sky, shows_gap, surely
>>> first = Book('book\nship a\nship b\nheard b 1 left a 1 1')
>>> a, b = ('a', (0, 1)), ('b', (0, 1))
>>> [gap(first, 'u', a, b), gap(first, 'v', a, b)]
[(((0, 1), False, ((0, 1),)), None), (((0, 1), True, ((0, 1),)), ((0, 1), True, ((0, -1),)))]
>>> [surely(first, a, b), surely(first, b, a)[0], one_sky(first)[:2]]
[('ahead', ((0, 1),), ((0, 1),)), 'not', ('slides', 'u')]
>>> both = Book(first.text + '\nheard a 3 right b 2 1')
>>> [gap(both, 'u', a, b)[0], gap(both, 'u', a, b)[1], one_sky(both)]
[((1, 1), True, ((1, -1),)), ((1, 1), True, ((1, 1),)), ('one',)]
>>> slower = Book('book\nship a\nship b\npassed b 2 a 3 1/2')
>>> [gap(slower, 'u', a, b)[0][0], gap(slower, 'u', b, a)[0][0], gap(slower, 'v', a, b)[0][0]]
[(-1, 1), (1, 2), (2, 1)]
"""

SECTION_18 = r"""
>>> from crewclocks.errors import BadPace, CrewError
>>> isinstance(BadPace(0), CrewError), BadPace(('a', 1)).value
(True, ('a', 1))
"""


class Examples(unittest.TestCase):
    def run_section(self, name, text):
        test = doctest.DocTestParser().get_doctest(text, {}, name, None, 0)
        told = []
        outcome = doctest.DocTestRunner(verbose=False).run(test, out=told.append)
        self.assertGreater(outcome.attempted, 1)
        self.assertEqual(outcome.failed, 0, "".join(told))

    def test_section_4(self):
        self.run_section("section 4", SECTION_4)

    def test_section_5(self):
        self.run_section("section 5", SECTION_5)

    def test_section_6(self):
        self.run_section("section 6", SECTION_6)

    def test_section_7(self):
        self.run_section("section 7", SECTION_7)

    def test_section_8(self):
        self.run_section("section 8", SECTION_8)

    def test_section_9(self):
        self.run_section("section 9", SECTION_9)

    def test_section_10(self):
        self.run_section("section 10", SECTION_10)

    def test_section_11(self):
        self.run_section("section 11", SECTION_11)

    def test_section_18(self):
        self.run_section("section 18", SECTION_18)

    def test_readme(self):
        self.run_section("README.md", README.read_text())


if __name__ == "__main__":
    unittest.main()
