"""The examples of the document, as they stand, and those of README.md."""

import doctest
import pathlib
import unittest

from crewclocks.bench import Bench
from crewclocks.errors import BadFactors, BadJournal, BadOpen
from crewclocks.events import together
from crewclocks.flashes import heard
from crewclocks.flights import Flight
from crewclocks.journals import read_journal
from crewclocks.setting import echo, half
from crewclocks.unknown import Open, put_in
from crewclocks.within import own_flight, reach
from helpers import event, worth

README = pathlib.Path(__file__).resolve().parent.parent / "README.md"

SECTION_4 = r"""
>>> from crewclocks.events import mirrored, own_square, seen, sequence, shifted, shows_sequence, together
>>> here, there, aside = ((0, 1), (0, 1)), ((4, 1), (9, 1)), ((4, 1), (-1, 1))
>>> [sequence(here, there), sequence(there, here), sequence(aside, there), sequence(here, here)]
[('ahead',), ('behind',), ('ahead',), ('same',)]
>>> [sequence(here, aside)[0], shows_sequence(here, aside, ('either', (1, 1), (3, 1))), shows_sequence(here, aside, ('either', (2, 1), (3, 1)))]
['either', True, False]
>>> [together((2, 1), here, aside), together((1, 1), here, aside), own_square(here, there)]
[True, False, (36, 1)]
>>> [seen(there, (2, 3)), own_square(here, seen(there, (2, 3))), shifted(aside, ((1, 2), (1, 1))), mirrored(aside)]
[((6, 1), (6, 1)), (36, 1), ((9, 2), (0, 1)), ((-1, 1), (4, 1))]
"""

SECTION_5 = r"""
>>> from crewclocks.flights import cut, Flight, joined, seen_flight, slack, when
>>> ship = Flight('flight 0 0 1\nfly 2\nturn 2\nfly 3\nturn 1/4\nfly 4')
>>> [ship.pieces, ship.whole, ship.goal]
[(((1, 1), (2, 1)), ((2, 1), (3, 1)), ((1, 2), (4, 1))), (9, 1), ((10, 1), (23, 2))]
>>> [ship.at((3, 1)), ship.pace_at((2, 1)), ship.pace_at((9, 1)), when(ship, ((8, 1), (7, 2))), when(ship, ((3, 1), (3, 1)))]
[((4, 1), (5, 2)), (2, 1), (1, 2), (5, 1), None]
>>> [seen_flight(ship, (2, 1)).goal, joined(ship, Flight('flight 0 0 5\nfly 1')).goal, slack(ship)]
[((5, 1), (23, 1)), ((21, 2), (27, 2)), (34, 1)]
>>> [part.text.split('\n') for part in cut(ship, (3, 1))]
[['flight 0 0 1', 'fly 2', 'turn 2', 'fly 1'], ['flight 4 5/2 2', 'fly 2', 'turn 1/4', 'fly 4']]
>>> [part.text.split('\n') for part in cut(ship, (2, 1))]
[['flight 0 0 1', 'fly 2'], ['flight 2 2 2', 'fly 3', 'turn 1/4', 'fly 4']]
"""

SECTION_6 = r"""
>>> from crewclocks.flashes import colour, heard, thrown, thrown_plain, told_first
>>> from crewclocks.flights import Flight
>>> flight = Flight('flight 0 0 1\nfly 4\nturn 2\nfly 3')
>>> [flight.at((4, 1)), flight.at((7, 1))]
[((4, 1), (4, 1)), ((10, 1), (11, 2))]
>>> [heard(flight, ((2, 1), (5, 1))), heard(flight, ((6, 1), (3, 1))), heard(flight, ((3, 1), (3, 1))), heard(flight, ((20, 1), (0, 1)))]
[('left', (6, 1)), ('right', (5, 1)), None, None]
>>> [colour('left', (1, 1), (2, 1)), colour('right', (1, 1), (2, 1))]
[(1, 2), (2, 1)]
>>> [told_first(flight, event) for event in (((6, 1), (3, 1)), ((0, 1), (5, 1)), ((3, 1), (3, 1)), ((20, 1), (0, 1)), ((-1, 1), (-2, 1)))]
[(5, 1), (6, 1), (3, 1), None, (0, 1)]
>>> [thrown_plain((3, 1), (3, 2), 2), thrown((3, 1), (3, 2), 2, 7), thrown((3, 1), (3, 2), 10 ** 18, 7)]
[(27, 4), 5, 6]
"""

SECTION_7 = r"""
>>> from crewclocks.runs import run, why
>>> from crewclocks.skies import Sky, mirrored_sky, renamed, seen_sky, shifted_sky
>>> talk = Sky('sky\nship a 0 0 1\nflash p\nuntil right q\nfly 1\nship b 2 -2 1\nuntil left p\nturn 2\nflash q\nfly 3')
>>> run(talk)[0]
('a', 'flight 0 0 1\nfly 4\nfly 1', 3, (((0, 1), 'sent', 'p'), ((4, 1), 'heard', 'right', 'b', 'q', (1, 2))))
>>> run(talk)[1][1:3]
('flight 2 -2 1\nfly 2\nturn 2\nfly 3', 4)
>>> run(talk)[1][3]
(((2, 1), 'heard', 'left', 'a', 'p', (1, 2)), ((2, 1), 'felt', (2, 1)), ((2, 1), 'sent', 'q'))
>>> cross = Sky('sky\nship d 0 0 2\nfly 5\nship e 3 -3 1\nfly 6')
>>> [log for name, flight, done, log in run(cross)]
[(((4, 1), 'passed', 'e', (1, 2)),), (((5, 1), 'passed', 'd', (2, 1)),)]
>>> shy = Sky('sky\nship x 0 0 1\nuntil right m\nflash n\nship y 4 -4 1\nuntil left n\nflash m\nship z 9 -9 1\nuntil right m\nship w 0 0 1/3')
>>> [why(shy, name) for name in ('x', 'y', 'z', 'w')]
[('stuck', 'y'), ('stuck', 'x'), ('stuck', 'y'), ('done',)]
>>> [why(Sky('sky\nship a 0 0 1\nflash p\nship b 2 -2 1\nuntil right p'), 'b'), why(Sky('sky\nship a 0 0 1\nuntil left p'), 'a')]
[('passed', 'p'), ('unsent', 'p')]
>>> [mirrored_sky(cross).text, renamed(cross, ('m', 'd')).names, shifted_sky(cross, ((1, 2), (0, 1))).ships[0][1], seen_sky(cross, (2, 1)).ships[1][1:3]]
['sky\nship d 0 0 1/2\nfly 5\nship e -3 3 1\nfly 6', ('m', 'd'), ((1, 2), (0, 1)), (((3, 2), (-6, 1)), (1, 2))]
"""

SECTION_8 = r"""
>>> from crewclocks.changes import edge, edited, kept, run_again, unlike_rows
>>> from crewclocks.runs import run
>>> from crewclocks.skies import Sky
>>> two = Sky('sky\nship a 0 0 1\nfly 1\nflash x\nfly 4\nship b 1 -1 1\nuntil left x\nflash y\nfly 1')
>>> [run(two)[0][3], run(two)[1][3]]
[(((1, 1), 'sent', 'x'), ((3, 1), 'heard', 'right', 'b', 'y', (1, 1))), (((2, 1), 'heard', 'left', 'a', 'x', (1, 1)), ((2, 1), 'sent', 'y'))]
>>> still = ('drop', 'b', 1)
>>> [edge(two, still), kept(two, still), unlike_rows(two, edited(two, still))]
[((3, 1), (1, 1)), (('a', 1), ('b', 0)), (('a', 1), ('b', 1))]
>>> quick = ('add', 'a', 1, 'turn 2')
>>> [edge(two, quick), kept(two, quick), run_again(two, quick, run(two))[1][3][0]]
[((1, 1), (1, 1)), (('a', 0), ('b', 0)), ((2, 1), 'heard', 'left', 'a', 'x', (2, 1))]
"""

SECTION_9 = r"""
>>> from crewclocks.books import Book, book_of, own_place, with_saying, without_saying
>>> from crewclocks.skies import Sky
>>> book = Book('book\nship a\nship b\nfelt a 2 3/2\nheard a 4 right b 1 2\npassed a 0 b 0 1/2')
>>> [book.names, book.felt, book.sayings[0], len(book)]
[('a', 'b'), (('a', (2, 1), (3, 2)),), ('heard', 'a', (4, 1), 'right', 'b', (1, 1), (2, 1)), 2]
>>> [own_place(book, 'a', time) for time in ((0, 1), (2, 1), (4, 1))]
[((1, 1), (0, 1), (0, 1)), ((3, 2), (2, 1), (2, 1)), ((3, 2), (5, 1), (10, 3))]
>>> without_saying(book, 0).text == 'book\nship a\nship b\nfelt a 2 3/2\npassed a 0 b 0 1/2'
True
>>> with_saying(book, 'passed b 3 a 1/2 2').sayings[-1]
('passed', 'b', (3, 1), 'a', (1, 2), (2, 1))
>>> sky = Sky('sky\nship a 0 0 1\nflash x\nfly 4\nship b 2 -2 2\nfly 5\nturn 1/2\nturn 3')
>>> book_of(sky).text.split('\n')
['book', 'ship a', 'ship b', 'heard b 4 left a 0 1/2', 'felt b 5 3/2']
"""

SECTION_10 = r"""
>>> from crewclocks.books import Book
>>> from crewclocks.fitting import fits, is_placing, least_bars, needless, paces, parts, shows_fits
>>> rows = ['book', 'ship ann', 'ship bob', 'passed ann 0 bob 0 2', 'heard bob 2 left ann 1 1/2', 'heard ann 4 right bob 2 1/2']
>>> book = Book('\n'.join(rows))
>>> here = ((0, 1), (0, 1))
>>> [fits(book)[0], parts(book), paces(book), least_bars(book)]
['placing', (('ann', 'bob'),), (('ann', (1, 1)), ('bob', (2, 1))), ()]
>>> [is_placing(book, (('ann', here, (1, 1)), ('bob', here, (2, 1)))), is_placing(book, (('ann', here, (1, 1)), ('bob', here, (3, 1))))]
[True, False]
>>> is_placing(book, (('ann', ((7, 1), (-1, 1)), (1, 2)), ('bob', ((7, 1), (-1, 1)), (1, 1))))
True
>>> [needless(book, number) for number in (0, 1, 2)]
[True, True, True]
>>> late = Book('\n'.join(rows[:5] + ['heard ann 5 right bob 2 1/2']))
>>> [fits(late)[0], [shows_fits(late, ('short', plane, ((0, 1), (2, -1)))) for plane in 'uv'], least_bars(late)]
['short', [True, False], ((0, 2),)]
>>> red = Book('\n'.join(rows[:4] + ['heard bob 2 left ann 1 1/3']))
>>> [fits(red)[0], shows_fits(red, ('colours', ((0, 1), (1, 1)))), shows_fits(red, ('colours', ((1, -1), (0, -1))))]
['colours', True, True]
"""

SECTION_11 = r"""
>>> from crewclocks.books import Book
>>> from crewclocks.gaps import gap, one_sky, shows_gap, surely
>>> first = Book('book\nship a\nship b\nheard b 1 left a 1 1')
>>> a, b = ('a', (0, 1)), ('b', (0, 1))
>>> [gap(first, 'u', a, b), gap(first, 'v', a, b)]
[(((0, 1), False, ((0, 1),)), None), (((0, 1), True, ((0, 1),)), ((0, 1), True, ((0, -1),)))]
>>> [surely(first, a, b), surely(first, b, a)[0], one_sky(first)[:2]]
[('ahead', ((0, 1),), ((0, 1),)), 'not', ('slides', 'u')]
>>> both = Book(first.text + '\nheard a 3 right b 2 1')
>>> [gap(both, 'u', a, b)[0], gap(both, 'u', a, b)[1], one_sky(both)]
[((1, 1), True, ((1, -1),)), ((1, 1), True, ((1, 1),)), ('one',)]
>>> slower = Book('book\nship a\nship b\npassed b 2 a 3 1/2')
>>> [gap(slower, 'u', a, b)[0][0], gap(slower, 'u', b, a)[0][0], gap(slower, 'v', a, b)[0][0]]
[(-1, 1), (1, 2), (2, 1)]
"""

SECTION_12 = r"""
>>> from crewclocks.alike import joint, level, same_logs
>>> from crewclocks.changes import edited
>>> from crewclocks.skies import seen_sky, Sky
>>> far = Sky('sky\nship a 0 0 1\nfly 1\nflash x\nship b 1 -1 1\nuntil left x')
>>> slid = Sky('sky\nship a 0 0 1\nfly 1\nflash x\nship b 5/2 -1 1\nuntil left x')
>>> [joint(far), level(far, 'u'), level(far, 'v')]
[(('a', 'b'),), (('a',), ('b',)), (('a', 'b'),)]
>>> same_logs(far, slid)
('same', (((1, 1), ((0, 1), (0, 1))), ((1, 1), ((3, 2), (0, 1)))))
>>> same_logs(far, seen_sky(far, (2, 1)))
('same', (((2, 1), ((0, 1), (0, 1))), ((2, 1), ((0, 1), (0, 1)))))
>>> same_logs(far, edited(far, ('set', 'a', 0, 'fly 2')))
('unlike', 'a', 0)
"""

SECTION_13 = r"""
>>> from crewclocks.flights import Flight
>>> from crewclocks.within import least_own, leases, lease_wait, met_first, own_flight, reach, shows_leases, shows_own_flight, shows_reach
>>> start, goal = ((0, 1), (0, 1)), ((5, 1), (5, 1))
>>> [shows_reach(start, goal, (2, 1), ('plan', pieces)) for pieces in ((((2, 1), (2, 1)), ((1, 2), (2, 1))), (((1, 2), (2, 1)), ((2, 1), (2, 1))), (((1, 1), (5, 1)),))]
[True, True, False]
>>> [reach(start, ((9, 1), (2, 1)), (2, 1)), reach(start, ((8, 1), (2, 1)), (2, 1)), reach(goal, start, (2, 1)), reach(start, start, (1, 1))]
[('beyond', 'u'), ('plan', (((2, 1), (4, 1)),)), ('behind',), ('plan', ())]
>>> [least_own(start, goal, (2, 1)), own_flight(start, goal, (2, 1), (3, 1)), own_flight(start, goal, (2, 1), (6, 1)), own_flight(start, goal, (2, 1), (9, 2))[0]]
[(4, 1), ('less', (4, 1)), ('more', (25, 1)), 'plan']
>>> shows_own_flight(start, goal, (2, 1), (9, 2), ('plan', (((2, 1), (19, 14)), ((8, 11), (22, 7)))))
True
>>> flight = Flight('flight 4 0 1\nfly 6')
>>> [met_first(flight, start, (2, 1)), met_first(flight, start, (1, 1))]
[((4, 3), ((16, 3), (4, 3))), None]
>>> [lease_wait((2, 1), (3, 1)), leases((2, 1), (3, 1), (12, 1)), leases((2, 1), (3, 1), (11, 1))[0]]
[(12, 1), ('safe',), 'both']
>>> shows_leases((2, 1), (3, 1), (11, 1), ('both', 'flight 0 0 1/2\nfly 13', 'flight 1 0 2\nfly 3'))
True
"""

SECTION_14 = r"""
>>> from crewclocks.unknown import Open, put_in, same_end, shows_same_end, sums
>>> there = Open('open 0 0\nfly 2\nturn a\nfly 1\nback a\nfly 3')
>>> first = Open('open 0 0\nturn a\nfly 1\nback a\nfly 5')
>>> both = Open('open 0 0\nturn a\nfly 1\nturn b\nfly 2\nback b\nfly 3')
>>> [sums(there), sums(both), there.whole, both.whole]
[(((0, 0, 0, 0, 0, 0), (5, 1)), ((1, 0, 0, 0, 0, 0), (1, 1))), (((1, 0, 0, 0, 0, 0), (4, 1)), ((1, 1, 0, 0, 0, 0), (2, 1))), (6, 1), (6, 1)]
>>> [same_end(there, first), same_end(there, both)[0]]
[('same',), 'apart']
>>> ones, some = ((1, 1),) * 6, ((2, 1), (1, 2)) + ((1, 1),) * 4
>>> [shows_same_end(there, both, ('apart', ones)), shows_same_end(there, both, ('apart', some)), shows_same_end(there, first, ('same',))]
[False, True, True]
>>> [put_in(both, some).text.split('\n'), put_in(both, some).goal]
[['flight 0 0 1', 'turn 2', 'fly 1', 'turn 1/2', 'fly 2', 'turn 2', 'fly 3'], ((10, 1), (4, 1))]
"""

SECTION_15 = r"""
>>> from crewclocks.flights import Flight
>>> from crewclocks.setting import alike, echo, half
>>> home, far, drift = Flight('flight 0 0 1\nfly 20'), Flight('flight 6 -2 1\nfly 20'), Flight('flight 2 0 2\nfly 20')
>>> [echo(home, far, (1, 1)), half(home, far, (1, 1)), half(home, far, (5, 2)), half(far, home, (1, 1))]
[((3, 1), (9, 1)), ((3, 1), (2, 1)), ((9, 2), (2, 1)), ((7, 1), (-2, 1))]
>>> [echo(home, drift, (1, 1)), half(home, drift, (1, 1)), half(home, drift, (3, 1)), echo(home, drift, (15, 1))]
[((2, 1), (6, 1)), ((2, 1), (3, 2)), ((6, 1), (5, 2)), None]
>>> [alike(home, far), alike(home, drift), alike(drift, Flight('flight 0 0 7'))]
[True, False, True]
"""

SECTION_16 = r"""
>>> from crewclocks.bench import Bench
>>> bench = Bench('sky\nship a 0 0 1\nfly 1\nflash hi\nfly 4\nship b 2 0 1\nfly 5')
>>> [bench.log('b'), bench.book.text.split('\n'), bench.done]
[(((1, 1), 'heard', 'left', 'a', 'hi', (1, 1)),), ['book', 'ship a', 'ship b'], 0]
>>> bench.gather()
>>> [bench.book.text.split('\n')[3:], bench.asked(('a', (0, 1)), ('b', (0, 1)))[0]]
[['heard b 1 left a 1 1'], 'ahead']
>>> bench.alter(('set', 'b', 0, 'fly 1/2'))
>>> [bench.log('b'), len(bench.book), bench.placed()[0]]
[(), 1, 'placing']
>>> bench.say('heard b 3 left a 1 1')
>>> [bench.placed()[0], bench.done, len(bench.elder(1)[1])]
['short', 3, 1]
>>> bench.strike(0)
>>> [bench.placed()[0], bench.book.text.split('\n')[3:], bench.done]
['placing', ['heard b 3 left a 1 1'], 2]
"""

SECTION_17 = r"""
>>> from crewclocks.desk import Desk
>>> from crewclocks.journals import journal, read_journal
>>> desk = Desk('bench\nsky\nship a 0 0 1\nfly 1\nflash hi\nfly 4\nship b 2 0 1\nfly 5')
>>> [desk.say(line) for line in ('ships', 'log b', 'book', 'gather', 'book', 'asked a 0 b 0', 'placed')]
['a b', '1 heard left a hi 1', 'none', 'ok', 'heard b 1 left a 1 1', 'ahead', 'placing']
>>> [desk.say(line) for line in ('alter set b 0 fly 1/2', 'log b', 'log a', 'why b', 'say heard b 3 left a 1 1', 'placed')]
['ok', 'none', '1 sent hi', 'done', 'ok', 'short v']
>>> [desk.say('strike 0'), desk.say('book'), journal(desk.bench).split('\n')[8:]]
['ok', 'heard b 3 left a 1 1', ['alter set b 0 fly 1/2', 'say heard b 3 left a 1 1']]
>>> read_journal(journal(desk.bench)) == desk.bench
True
"""

SECTION_18 = r"""
>>> from crewclocks.errors import BadPace, CrewError
>>> isinstance(BadPace(0), CrewError), BadPace(('a', 1)).value
(True, ('a', 1))
"""


class Examples(unittest.TestCase):
    def run_section(self, name, text):
        test = doctest.DocTestParser().get_doctest(text, {}, name, None, 0)
        told = []
        outcome = doctest.DocTestRunner(verbose=False).run(test, out=told.append)
        self.assertGreater(outcome.attempted, 1)
        self.assertEqual(outcome.failed, 0, "".join(told))

    def test_section_4(self):
        self.run_section("section 4", SECTION_4)

    def test_section_5(self):
        self.run_section("section 5", SECTION_5)

    def test_section_6(self):
        self.run_section("section 6", SECTION_6)

    def test_section_7(self):
        self.run_section("section 7", SECTION_7)

    def test_section_8(self):
        self.run_section("section 8", SECTION_8)

    def test_section_9(self):
        self.run_section("section 9", SECTION_9)

    def test_section_10(self):
        self.run_section("section 10", SECTION_10)

    def test_section_11(self):
        self.run_section("section 11", SECTION_11)

    def test_section_12(self):
        self.run_section("section 12", SECTION_12)

    def test_section_13(self):
        self.run_section("section 13", SECTION_13)

    def test_section_14(self):
        self.run_section("section 14", SECTION_14)

    def test_section_15(self):
        self.run_section("section 15", SECTION_15)

    def test_section_16(self):
        self.run_section("section 16", SECTION_16)

    def test_section_17(self):
        self.run_section("section 17", SECTION_17)

    def test_section_18(self):
        self.run_section("section 18", SECTION_18)

    def test_readme(self):
        self.run_section("README.md", README.read_text())


class Remarks(unittest.TestCase):
    """What the document tells below its examples of sections 12 to 17."""

    def test_pieces_that_lead_from_start_to_goal(self):
        start, goal, two = event(0, 0), event(5, 5), (2, 1)
        self.assertEqual(own_flight(start, goal, (1, 1), (5, 1)), ("plan", (((1, 1), (5, 1)),)))
        told = own_flight(start, goal, two, (9, 2))
        self.assertEqual(told, ("plan", (((2, 1), (19, 14)), ((8, 11), (22, 7)))))
        self.assertEqual(sum(worth(time) for _, time in reach(start, goal, two)[1]), 4)

    def test_the_lease_that_is_broken(self):
        grantor, holder = Flight("flight 0 0 1/2\nfly 13"), Flight("flight 1 0 2\nfly 3")
        self.assertEqual(heard(holder, grantor.start), ("left", (0, 1)))
        self.assertEqual(heard(grantor, holder.start), ("right", (2, 1)))
        self.assertEqual((grantor.at((13, 1)), holder.goal), (event("13/2", 26), event(7, "3/2")))

    def test_ends_of_open_flights(self):
        there, both = Open("open 0 0\nfly 2\nturn a\nfly 1\nback a\nfly 3"), Open("open 0 0\nturn a\nfly 1\nturn b\nfly 2\nback b\nfly 3")
        ones = ((1, 1),) * 6
        some = ((2, 1), (1, 2)) + ones[2:]
        self.assertEqual([put_in(plan, ones).goal for plan in (there, both)], [event(6, 6)] * 2)
        self.assertEqual([put_in(plan, some).goal for plan in (there, both)], [event(7, "11/2"), event(10, 4)])
        with self.assertRaises(BadOpen) as caught:
            Open("open 0 0\nturn g")
        self.assertEqual(caught.exception.value, 2)
        with self.assertRaises(BadFactors) as caught:
            put_in(there, ones[1:])
        self.assertEqual(caught.exception.value, ones[1:])

    def test_clocks_of_home_and_far(self):
        home, far, drift = (Flight(text) for text in ("flight 0 0 1\nfly 20", "flight 6 -2 1\nfly 20", "flight 2 0 2\nfly 20"))
        self.assertIs(together((1, 1), far.start, home.at((2, 1))), True)
        self.assertEqual((far.at((3, 1)), home.at((9, 1))), (event(9, 1), event(9, 9)))
        self.assertEqual((echo(home, far, (1, 1)), half(home, far, (1, 1))), (((3, 1), (9, 1)), ((3, 1), (2, 1))))
        self.assertEqual(drift.at((6, 1)), event(14, 3))

    def test_the_bench_of_two_ships(self):
        bench = Bench("sky\nship a 0 0 1\nfly 1\nflash hi\nfly 4\nship b 2 0 1\nfly 5")
        bench.gather()
        bench.say("heard b 3 left a 1 1")
        self.assertEqual(bench.placed()[:2], ("short", "v"))
        self.assertEqual(Flight("flight 2 0 1\nfly 5").at((1, 1)), event(3, 1))

    def test_a_journal_that_lacks_a_ship(self):
        with self.assertRaises(BadJournal) as caught:
            read_journal("bench\nsky\ngather")
        self.assertEqual(caught.exception.value, 3)


if __name__ == "__main__":
    unittest.main()
