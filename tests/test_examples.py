"""The examples of the document, as they stand, and those of README.md."""

import doctest
import pathlib
import unittest

README = pathlib.Path(__file__).resolve().parent.parent / "README.md"

SECTION_4 = r"""
>>> from crewclocks.events import mirrored, own_square, seen, sequence, shifted, shows_sequence, together
>>> here, there, aside = ((0, 1), (0, 1)), ((4, 1), (9, 1)), ((4, 1), (-1, 1))
>>> [sequence(here, there), sequence(there, here), sequence(aside, there), sequence(here, here)]
[('ahead',), ('behind',), ('ahead',), ('same',)]
>>> [sequence(here, aside)[0], shows_sequence(here, aside, ('either', (1, 1), (3, 1))), shows_sequence(here, aside, ('either', (2, 1), (3, 1)))]
['either', True, False]
>>> [together((2, 1), here, aside), together((1, 1), here, aside), own_square(here, there)]
[True, False, (36, 1)]
>>> [seen(there, (2, 3)), own_square(here, seen(there, (2, 3))), shifted(aside, ((1, 2), (1, 1))), mirrored(aside)]
[((6, 1), (6, 1)), (36, 1), ((9, 2), (0, 1)), ((-1, 1), (4, 1))]
"""

SECTION_5 = r"""
>>> from crewclocks.flights import cut, Flight, joined, seen_flight, slack, when
>>> ship = Flight('flight 0 0 1\nfly 2\nturn 2\nfly 3\nturn 1/4\nfly 4')
>>> [ship.pieces, ship.whole, ship.goal]
[(((1, 1), (2, 1)), ((2, 1), (3, 1)), ((1, 2), (4, 1))), (9, 1), ((10, 1), (23, 2))]
>>> [ship.at((3, 1)), ship.pace_at((2, 1)), ship.pace_at((9, 1)), when(ship, ((8, 1), (7, 2))), when(ship, ((3, 1), (3, 1)))]
[((4, 1), (5, 2)), (2, 1), (1, 2), (5, 1), None]
>>> [seen_flight(ship, (2, 1)).goal, joined(ship, Flight('flight 0 0 5\nfly 1')).goal, slack(ship)]
[((5, 1), (23, 1)), ((21, 2), (27, 2)), (34, 1)]
>>> [part.text.split('\n') for part in cut(ship, (3, 1))]
[['flight 0 0 1', 'fly 2', 'turn 2', 'fly 1'], ['flight 4 5/2 2', 'fly 2', 'turn 1/4', 'fly 4']]
>>> [part.text.split('\n') for part in cut(ship, (2, 1))]
[['flight 0 0 1', 'fly 2'], ['flight 2 2 2', 'fly 3', 'turn 1/4', 'fly 4']]
"""

SECTION_6 = r"""
>>> from crewclocks.flashes import colour, heard, thrown, thrown_plain, told_first
>>> from crewclocks.flights import Flight
>>> flight = Flight('flight 0 0 1\nfly 4\nturn 2\nfly 3')
>>> [flight.at((4, 1)), flight.at((7, 1))]
[((4, 1), (4, 1)), ((10, 1), (11, 2))]
>>> [heard(flight, ((2, 1), (5, 1))), heard(flight, ((6, 1), (3, 1))), heard(flight, ((3, 1), (3, 1))), heard(flight, ((20, 1), (0, 1)))]
[('left', (6, 1)), ('right', (5, 1)), None, None]
>>> [colour('left', (1, 1), (2, 1)), colour('right', (1, 1), (2, 1))]
[(1, 2), (2, 1)]
>>> [told_first(flight, event) for event in (((6, 1), (3, 1)), ((0, 1), (5, 1)), ((3, 1), (3, 1)), ((20, 1), (0, 1)), ((-1, 1), (-2, 1)))]
[(5, 1), (6, 1), (3, 1), None, (0, 1)]
>>> [thrown_plain((3, 1), (3, 2), 2), thrown((3, 1), (3, 2), 2, 7), thrown((3, 1), (3, 2), 10 ** 18, 7)]
[(27, 4), 5, 6]
"""

SECTION_7 = r"""
>>> from crewclocks.runs import run, why
>>> from crewclocks.skies import Sky, mirrored_sky, renamed, seen_sky, shifted_sky
>>> talk = Sky('sky\nship a 0 0 1\nflash p\nuntil right q\nfly 1\nship b 2 -2 1\nuntil left p\nturn 2\nflash q\nfly 3')
>>> run(talk)[0]
('a', 'flight 0 0 1\nfly 4\nfly 1', 3, (((0, 1), 'sent', 'p'), ((4, 1), 'heard', 'right', 'b', 'q', (1, 2))))
>>> run(talk)[1][1:3]
('flight 2 -2 1\nfly 2\nturn 2\nfly 3', 4)
>>> run(talk)[1][3]
(((2, 1), 'heard', 'left', 'a', 'p', (1, 2)), ((2, 1), 'felt', (2, 1)), ((2, 1), 'sent', 'q'))
>>> cross = Sky('sky\nship d 0 0 2\nfly 5\nship e 3 -3 1\nfly 6')
>>> [log for name, flight, done, log in run(cross)]
[(((4, 1), 'passed', 'e', (1, 2)),), (((5, 1), 'passed', 'd', (2, 1)),)]
>>> shy = Sky('sky\nship x 0 0 1\nuntil right m\nflash n\nship y 4 -4 1\nuntil left n\nflash m\nship z 9 -9 1\nuntil right m\nship w 0 0 1/3')
>>> [why(shy, name) for name in ('x', 'y', 'z', 'w')]
[('stuck', 'y'), ('stuck', 'x'), ('stuck', 'y'), ('done',)]
>>> [why(Sky('sky\nship a 0 0 1\nflash p\nship b 2 -2 1\nuntil right p'), 'b'), why(Sky('sky\nship a 0 0 1\nuntil left p'), 'a')]
[('passed', 'p'), ('unsent', 'p')]
>>> [mirrored_sky(cross).text, renamed(cross, ('m', 'd')).names, shifted_sky(cross, ((1, 2), (0, 1))).ships[0][1], seen_sky(cross, (2, 1)).ships[1][1:3]]
['sky\nship d 0 0 1/2\nfly 5\nship e -3 3 1\nfly 6', ('m', 'd'), ((1, 2), (0, 1)), (((3, 2), (-6, 1)), (1, 2))]
"""

SECTION_18 = r"""
>>> from crewclocks.errors import BadPace, CrewError
>>> isinstance(BadPace(0), CrewError), BadPace(('a', 1)).value
(True, ('a', 1))
"""


class Examples(unittest.TestCase):
    def run_section(self, name, text):
        test = doctest.DocTestParser().get_doctest(text, {}, name, None, 0)
        told = []
        outcome = doctest.DocTestRunner(verbose=False).run(test, out=told.append)
        self.assertGreater(outcome.attempted, 1)
        self.assertEqual(outcome.failed, 0, "".join(told))

    def test_section_4(self):
        self.run_section("section 4", SECTION_4)

    def test_section_5(self):
        self.run_section("section 5", SECTION_5)

    def test_section_6(self):
        self.run_section("section 6", SECTION_6)

    def test_section_7(self):
        self.run_section("section 7", SECTION_7)

    def test_section_18(self):
        self.run_section("section 18", SECTION_18)

    def test_readme(self):
        self.run_section("README.md", README.read_text())


if __name__ == "__main__":
    unittest.main()
