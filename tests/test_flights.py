import unittest
from fractions import Fraction
from itertools import product

from crewclocks.errors import BadEvent, BadFlight, BadPace, BadTime
from crewclocks.events import seen
from crewclocks.flights import Flight, cut, joined, seen_flight, slack, when
from helpers import Raises, event, no_events, no_fractions, no_paces, no_times, pair, worth

TEXTS = [
    "flight 0 0 1",
    "flight -1/2 3 2/3",
    "flight 5 -7/3 4\nturn 1/2",
    "flight 0 0 2\nturn 3\nturn 1/2\nturn 5/7",
    "flight 0 0 1\nfly 2",
    "flight 1 2 3\nfly 1/3\nfly 2/3\nfly 5",
    "flight 0 0 1\nfly 2\nturn 2\nfly 3\nturn 1/4\nfly 4",
    "flight 0 0 1\nturn 2\nturn 3\nfly 1\nturn 2\nturn 1/3\nfly 1/2\nturn 7\nturn 1/5",
    "flight -3/4 -5 7/2\nturn 1/7\nfly 11/3\nfly 1/6\nturn 9\nfly 2\nturn 1\nfly 2",
    "flight 10 20 1/100\nfly 1000\nturn 10000\nfly 1/1000",
]
SHIP = TEXTS[6]


class Course:
    """What a text of a flight says, worked out by Python's own fractions."""

    def __init__(self, text):
        first, *rest = text.split("\n")
        _, u, v, pace = first.split(" ")
        u, v, pace, time = Fraction(u), Fraction(v), Fraction(pace), Fraction(0)
        self.marks = [(time, u, v, pace)]
        self.pieces = []
        for line in rest:
            word, value = line.split(" ")
            if word == "turn":
                pace *= Fraction(value)
                self.marks[-1] = (time, u, v, pace)
            else:
                flown = Fraction(value)
                self.pieces.append((pair(pace), pair(flown)))
                time, u, v = time + flown, u + pace * flown, v + flown / pace
                self.marks.append((time, u, v, pace))
        self.whole = time

    def at(self, time):
        begun, u, v, pace = [mark for mark in self.marks if mark[0] <= time][-1]
        return pair(u + pace * (time - begun)), pair(v + (time - begun) / pace)

    def pace_at(self, time):
        return pair([mark for mark in self.marks if mark[0] <= time][-1][3])

    def times(self):
        """All turns, the beginning, the end, and times between."""
        times = [mark[0] for mark in self.marks]
        between = [a + (b - a) * part for a, b in zip(times, times[1:])
                   for part in (Fraction(1, 3), Fraction(999, 1000))]
        return sorted(times + between)


class Attributes(unittest.TestCase):
    def test_all_attributes(self):
        for text in TEXTS:
            flight, course = Flight(text), Course(text)
            self.assertEqual(flight.text, text)
            self.assertEqual(flight.start, course.at(0))
            self.assertEqual(flight.pace, pair(text.split("\n")[0].split(" ")[3]))
            self.assertEqual(flight.pieces, tuple(course.pieces))
            self.assertEqual(flight.whole, pair(course.whole))
            self.assertEqual(flight.goal, course.at(course.whole))
            self.assertEqual(len(flight), len(course.pieces))

    def test_kinds(self):
        flight = Flight(SHIP)
        for value in (flight.start, flight.pace, flight.pieces, flight.whole, flight.goal, flight.at((1, 1))):
            self.assertIs(type(value), tuple)
        self.assertTrue(all(type(piece) is tuple for piece in flight.pieces))
        self.assertIs(type(len(flight)), int)

    def test_without_a_piece(self):
        flight = Flight("flight -1/2 3 2/3")
        self.assertEqual((flight.start, flight.goal), (event("-1/2", 3), event("-1/2", 3)))
        self.assertEqual((flight.pace, flight.pieces, flight.whole, len(flight)), ((2, 3), (), (0, 1), 0))

    def test_first_line_tells_the_pace_whatever_turns_follow(self):
        self.assertEqual(Flight("flight 0 0 2\nturn 3\nfly 1").pace, (2, 1))
        self.assertEqual(Flight("flight 0 0 2\nturn 3\nfly 1").pieces, (((6, 1), (1, 1)),))

    def test_fly_lines_side_by_side_are_pieces_of_their_own(self):
        flight = Flight("flight 0 0 2\nfly 1\nfly 1\nfly 1/2")
        self.assertEqual(flight.pieces, (((2, 1), (1, 1)), ((2, 1), (1, 1)), ((2, 1), (1, 2))))

    def test_texts_are_read_back(self):
        for text in TEXTS:
            self.assertEqual(Flight(Flight(text).text), Flight(text))
        self.assertEqual(Flight(text=SHIP).text, SHIP)

    def test_numbers_of_many_figures(self):
        great = 7 ** 900
        flight = Flight(f"flight -{great} 1/{great} {great}\nfly 2")
        self.assertEqual(flight.start, ((-great, 1), (1, great)))
        self.assertEqual(flight.goal, ((great, 1), (3, great)))

    def test_many_lines(self):
        flight = Flight("flight 0 0 1" + "\nfly 1\nturn 2\nfly 2\nturn 1/2" * 120)
        self.assertEqual(len(flight), 240)
        self.assertEqual((flight.whole, flight.goal), ((360, 1), event(600, 240)))
        self.assertEqual(flight.at((359, 1)), event(598, "479/2"))


class Equality(unittest.TestCase):
    def test_by_texts(self):
        for one, other in product(TEXTS, repeat=2):
            self.assertIs(Flight(one) == Flight(other), one == other)
            self.assertIs(Flight(one) != Flight(other), one != other)

    def test_the_same_course_by_another_text_is_unlike(self):
        self.assertNotEqual(Flight("flight 0 0 1\nfly 2"), Flight("flight 0 0 1\nfly 1\nfly 1"))
        self.assertNotEqual(Flight("flight 0 0 1\nturn 1"), Flight("flight 0 0 1"))

    def test_equal_to_nothing_else(self):
        flight = Flight(SHIP)
        others = [SHIP, None, True, (), (SHIP,), [SHIP], flight.pieces, (flight.start, flight.pace), 3, {}]
        for other in others + no_fractions():
            self.assertIs(flight == other, False)
            self.assertIs(other == flight, False)
            self.assertIs(flight != other, True)


class Wrong(Raises, unittest.TestCase):
    def test_no_string(self):
        for value in no_fractions() + [b"flight 0 0 1", ["flight 0 0 1"], ("flight 0 0 1",), (1, 2)]:
            if not isinstance(value, str):
                self.assert_number(BadFlight, 0, Flight, value)

    def test_first_line(self):
        lines = [
            "", " ", "flight", "flight 0 0", "flight 0 0 1 1", "flight 0 0 1 ", " flight 0 0 1", "flight  0 0 1",
            "flight 0  0 1", "flight 0 0  1", "Flight 0 0 1", "FLIGHT 0 0 1", "flights 0 0 1", "fly 2", "turn 2",
            "sky", "open 0 0", "0 0 1", "flight a 0 1", "flight 0 b 1", "flight 0 0 c", "flight 0 0 0",
            "flight 0 0 -1", "flight 0 0 -1/2", "flight (0, 1) 0 1", "flight\t0 0 1", "flight 0 0 1fly 2",
            "flight 0 0 1 fly 2", "x flight 0 0 1",
        ]
        for line in lines:
            self.assert_number(BadFlight, 1, Flight, line)
            self.assert_number(BadFlight, 1, Flight, line + "\nfly 0")

    def test_fractions_in_the_first_line(self):
        for wrong in ("2/4", "3/1", "+1", "01", "-0", "1/-2", "1/ 2", "1 /2", "1_0", "1/0", "0/1", "0/2", "0/0",
                      "1/2/3", "/2", "1/", "/", "-", "--1", "-+1", "1-", "1/02", "1/+2", "-01", "-1/-2", "-2/4",
                      "00", "-00", "1.0", "1e3", "0x1", "1/1", "-1/1", "1_0/3", "3/1_0", "-/2", "1/-", "-0/1",
                      "-0/3", "one", "None", "True", "1,", "(1, 2)"):
            for words in ((wrong, "0", "1"), ("0", wrong, "1"), ("0", "0", wrong)):
                self.assert_number(BadFlight, 1, Flight, "flight " + " ".join(words))
            for word in ("fly", "turn"):
                self.assert_number(BadFlight, 2, Flight, f"flight 0 0 1\n{word} {wrong}")

    def test_right_fractions(self):
        for text in ("1", "10", "-1", "-10", "0", "1/2", "-1/2", "3/2", "-3/10", "100/7", "999999999999/1000000000000"):
            self.assertEqual(Flight(f"flight {text} 0 1").start, event(text, 0))
            self.assertEqual(Flight(f"flight 0 {text} 1").start, event(0, text))
            if Fraction(text) > 0:
                flight = Flight(f"flight 0 0 {text}\nturn {text}\nfly {text}")
                self.assertEqual((flight.pace, flight.whole), (pair(text), pair(text)))

    def test_later_lines(self):
        lines = [
            "", " ", "fly", "turn", "fly ", "turn ", "fly 0", "turn 0", "fly -1", "turn -1", "fly -1/2", "turn -1/2",
            "fly  1", "turn  1", "fly 1 ", " fly 1", "turn 1 ", " turn 1", "fly 1 1", "turn 1 2", "Fly 1", "TURN 1",
            "fly1", "flight 0 0 1", "flash a", "until left a", "back a", "turn a", "fly fly 1", "go 1", "1", "1 fly",
            "fly\t1", "fly 1;turn 2", "fly 1,turn 2", "turns 2", "tur 2", "flyturn 1",
        ]
        for line in lines:
            self.assert_number(BadFlight, 2, Flight, "flight 0 0 1\n" + line)
            self.assert_number(BadFlight, 4, Flight, f"flight 0 0 1\nfly 1\nturn 2\n{line}\nfly 2")
            self.assert_number(BadFlight, 5, Flight, f"flight 0 0 1\nfly 1\nturn 2\nfly 5\n{line}")

    def test_line_feeds(self):
        self.assert_number(BadFlight, 1, Flight, "")
        self.assert_number(BadFlight, 1, Flight, "\n")
        self.assert_number(BadFlight, 1, Flight, "\nflight 0 0 1")
        self.assert_number(BadFlight, 2, Flight, "flight 0 0 1\n")
        self.assert_number(BadFlight, 2, Flight, "flight 0 0 1\n\nfly 1")
        self.assert_number(BadFlight, 3, Flight, "flight 0 0 1\nfly 1\n")
        self.assert_number(BadFlight, 3, Flight, "flight 0 0 1\nfly 1\n\n")

    def test_the_first_wrong_line_is_told(self):
        self.assert_number(BadFlight, 1, Flight, "flight 0 0 0\nfly 0\nturn 0")
        self.assert_number(BadFlight, 2, Flight, "flight 0 0 1\nturn 0\nfly 0\n")
        self.assert_number(BadFlight, 3, Flight, "flight 0 0 1\nfly 1\nfly 0\nturn 0")
        self.assert_number(BadFlight, 12, Flight, "flight 0 0 1\n" + "fly 1\n" * 10 + "fly\nturn\nfly 1")

    def test_remark_of_section_5(self):
        self.assert_number(BadFlight, 2, Flight, "flight 0 0 1\nfly 0")
        self.assert_number(BadFlight, 1, Flight, "flight 0 0 2/4")
        ship, late = Flight(SHIP), (10, 1)
        self.assert_told(BadTime, late, ship.at, late)
        self.assertEqual(ship.at((2, 1)), event(2, 2))
        self.assertEqual(ship.at((5, 1)), event(8, "7/2"))
        self.assertEqual(worth(slack(ship)), 10 * Fraction(23, 2) - 81)


class OnTheWay(Raises, unittest.TestCase):
    def test_at_and_pace_at(self):
        for text in TEXTS:
            flight, course = Flight(text), Course(text)
            for time in course.times():
                self.assertEqual(flight.at(pair(time)), course.at(time))
                self.assertEqual(flight.pace_at(pair(time)), course.pace_at(time))

    def test_turns_take_effect_at_their_own_time(self):
        flight = Flight("flight 0 0 1\nturn 2\nturn 3\nfly 1\nturn 2\nturn 1/3\nfly 1/2\nturn 7\nturn 1/5")
        for time, expected in (("0", "6"), ("1/2", "6"), ("1", "4"), ("5/4", "4"), ("3/2", "28/5")):
            self.assertEqual(flight.pace_at(pair(time)), pair(expected))
        self.assertEqual(flight.at(time=(0, 1)), event(0, 0))
        self.assertEqual(flight.pace_at(time=(0, 1)), (6, 1))
        self.assertEqual(Flight("flight 0 0 2\nturn 3").pace_at((0, 1)), (6, 1))

    def test_times_that_are_none_or_too_late(self):
        for text in TEXTS:
            flight = Flight(text)
            behind = pair(worth(flight.whole) + Fraction(1, 10 ** 11))
            for value in no_times() + [behind, (10 ** 11, 1)]:
                self.assert_told(BadTime, value, flight.at, value)
                self.assert_told(BadTime, value, flight.pace_at, value)
                self.assert_told(BadTime, value, cut, flight, value)

    def test_when_on_the_flight(self):
        for text in TEXTS:
            flight, course = Flight(text), Course(text)
            for time in course.times():
                self.assertEqual(when(flight, course.at(time)), pair(time))

    def test_when_beside_the_flight(self):
        for text in TEXTS:
            flight, course = Flight(text), Course(text)
            for time in course.times():
                u, v = course.at(time)
                for more in (Fraction(1, 1000), Fraction(-1, 1000), Fraction(5), Fraction(-5)):
                    self.assertIsNone(when(flight, (pair(worth(u) + more), v)))
                    self.assertIsNone(when(flight, (u, pair(worth(v) + more))))

    def test_when_ahead_of_the_beginning_and_behind_the_end(self):
        for text in TEXTS:
            course = Course(text)
            _, u, v, pace = course.marks[0]
            before = pair(u - pace / 8), pair(v - 1 / pace / 8)
            self.assertIsNone(when(Flight(text), before))
            _, u, v, pace = course.marks[-1]
            for gone in (Fraction(1, 8), Fraction(1, 10 ** 6), Fraction(70)):
                self.assertIsNone(when(Flight(text), (pair(u + pace * gone), pair(v + gone / pace))))

    def test_when_on_the_line_of_a_piece_behind_its_turn(self):
        flight = Flight("flight 0 0 1\nfly 2\nturn 2\nfly 3")
        self.assertIsNone(when(flight, event(3, 3)))
        self.assertEqual(when(flight, event(4, "5/2")), (3, 1))
        self.assertEqual(when(event=event(1, 1), flight=flight), (1, 1))

    def test_when_refuses_what_is_no_event(self):
        for text in TEXTS:
            for value in no_events():
                self.assert_told(BadEvent, value, when, Flight(text), value)


class SeenFlights(Raises, unittest.TestCase):
    PACES = [pair(text) for text in ("1", "2", "1/2", "7/3", "3/1000", "12345")]

    def test_first_line_is_seen_and_the_others_stand(self):
        for text, pace in product(TEXTS, self.PACES):
            flight = Flight(text)
            look = seen_flight(flight, pace)
            self.assertIs(type(look), Flight)
            self.assertEqual(look.start, seen(flight.start, pace))
            self.assertEqual(look.pace, pair(worth(flight.pace) / worth(pace)))
            self.assertEqual(look.text.split("\n")[1:], text.split("\n")[1:])
            self.assertEqual(flight.text, text)

    def test_it_is_seen_at_the_same_own_times(self):
        for text, pace in product(TEXTS, self.PACES):
            flight, look = Flight(text), seen_flight(Flight(text), pace)
            self.assertEqual((look.whole, slack(look)), (flight.whole, slack(flight)))
            for time in Course(text).times():
                self.assertEqual(look.at(pair(time)), seen(flight.at(pair(time)), pace))

    def test_there_and_back(self):
        for text, pace in product(TEXTS, self.PACES):
            flight = Flight(text)
            self.assertEqual(seen_flight(seen_flight(flight, pace), (pace[1], pace[0])), flight)
            self.assertEqual(seen_flight(pace=(1, 1), flight=flight), flight)

    def test_texts(self):
        self.assertEqual(seen_flight(Flight("flight -3 1/2 5\nfly 1\nturn 2"), (3, 2)).text,
                         "flight -2 3/4 10/3\nfly 1\nturn 2")

    def test_errors(self):
        for value in no_paces():
            self.assert_told(BadPace, value, seen_flight, Flight(SHIP), value)


class Joined(unittest.TestCase):
    def test_lines_of_both(self):
        for one, other in product(TEXTS, repeat=2):
            whole = joined(Flight(one), Flight(other))
            self.assertIs(type(whole), Flight)
            self.assertEqual(whole.text.split("\n"), one.split("\n") + other.split("\n")[1:])
            self.assertEqual(worth(whole.whole), worth(Flight(one).whole) + worth(Flight(other).whole))
            self.assertEqual(len(whole), len(Flight(one)) + len(Flight(other)))

    def test_flights_without_further_lines(self):
        still, ship = Flight("flight 9 8 7"), Flight(SHIP)
        self.assertEqual(joined(ship, still), ship)
        self.assertEqual(joined(still, still), still)
        self.assertEqual(joined(still, ship).text, "flight 9 8 7\n" + SHIP.split("\n", 1)[1])

    def test_three_in_both_ways(self):
        for one, other, third in product(TEXTS[1:8], repeat=3):
            one, other, third = Flight(one), Flight(other), Flight(third)
            self.assertEqual(joined(joined(one, other), third), joined(one, joined(other, third)))

    def test_by_name(self):
        self.assertEqual(joined(other=Flight("flight 0 0 1\nfly 1"), one=Flight("flight 1 1 2")).text,
                         "flight 1 1 2\nfly 1")


class Cut(unittest.TestCase):
    def parts(self, text, time):
        told = cut(Flight(text), pair(time))
        self.assertIs(type(told), tuple)
        self.assertEqual([type(part) for part in told], [Flight, Flight])
        return [part.text.split("\n") for part in told]

    def test_at_the_beginning(self):
        self.assertEqual(self.parts(SHIP, 0), [["flight 0 0 1"], SHIP.split("\n")])
        self.assertEqual(self.parts("flight 1 2 3", 0), [["flight 1 2 3"], ["flight 1 2 3"]])
        self.assertEqual(self.parts("flight 1 2 3\nturn 1/3\nturn 5\nfly 2\nturn 2", 0),
                         [["flight 1 2 3"], ["flight 1 2 5", "fly 2", "turn 2"]])
        self.assertEqual(self.parts("flight 1 2 3\nturn 2\nturn 2", 0), [["flight 1 2 3"], ["flight 1 2 12"]])

    def test_at_turns(self):
        text = "flight 0 0 1\nturn 2\nfly 1\nturn 3\nturn 1/2\nfly 3\nturn 1/3\nfly 1\nturn 5"
        self.assertEqual(self.parts(text, 1), [["flight 0 0 1", "turn 2", "fly 1"],
                                               ["flight 2 1/2 3", "fly 3", "turn 1/3", "fly 1", "turn 5"]])
        self.assertEqual(self.parts(text, 4),
                         [["flight 0 0 1", "turn 2", "fly 1", "turn 3", "turn 1/2", "fly 3"],
                          ["flight 11 3/2 1", "fly 1", "turn 5"]])

    def test_between(self):
        text = "flight 0 0 1\nturn 2\nfly 1\nturn 3\nfly 3\nturn 1/3\nfly 1\nturn 5"
        self.assertEqual(self.parts(text, "3/2"),
                         [["flight 0 0 1", "turn 2", "fly 1", "turn 3", "fly 1/2"],
                          ["flight 5 7/12 6", "fly 5/2", "turn 1/3", "fly 1", "turn 5"]])

    def test_at_the_end(self):
        text = "flight 0 0 1\nfly 2\nturn 2\nturn 3\nfly 1\nturn 1/2\nturn 5"
        self.assertEqual(self.parts(text, 3), [["flight 0 0 1", "fly 2", "turn 2", "turn 3", "fly 1"],
                                               ["flight 8 13/6 15"]])
        self.assertEqual(self.parts(SHIP, 9), [SHIP.split("\n"), ["flight 10 23/2 1/2"]])

    def test_between_fly_lines_side_by_side(self):
        text = "flight 0 0 1\nfly 1\nfly 2\nfly 3"
        self.assertEqual(self.parts(text, 1), [["flight 0 0 1", "fly 1"], ["flight 1 1 1", "fly 2", "fly 3"]])
        self.assertEqual(self.parts(text, 2), [["flight 0 0 1", "fly 1", "fly 1"],
                                               ["flight 2 2 1", "fly 1", "fly 3"]])

    def test_both_parts_fly_as_the_whole_does(self):
        for text in TEXTS:
            flight, course = Flight(text), Course(text)
            for time in course.times():
                first, rest = cut(time=pair(time), flight=flight)
                self.assertEqual((first.start, first.pace), (flight.start, flight.pace))
                self.assertEqual(worth(first.whole), time)
                self.assertEqual(worth(rest.whole), course.whole - time)
                self.assertEqual((first.goal, rest.start), (course.at(time), course.at(time)))
                self.assertEqual((rest.pace, rest.goal), (course.pace_at(time), flight.goal))
                for other in course.times():
                    part = first.at(pair(other)) if other < time else rest.at(pair(other - time))
                    self.assertEqual(part, course.at(other))
            self.assertEqual(flight.text, text)


class Slack(unittest.TestCase):
    def test_straight_ones_have_none(self):
        for text in TEXTS[:6] + ["flight 0 0 1\nfly 2\nturn 1\nfly 3", "flight 0 0 2\nturn 3\nfly 1\nturn 7",
                                 "flight 0 0 1\nfly 1\nturn 2\nturn 1/2\nfly 5"]:
            self.assertEqual(slack(Flight(text)), (0, 1))

    def test_bent_ones_have_some(self):
        for text in TEXTS[6:] + ["flight 0 0 1\nfly 1\nturn 1000001/1000000\nfly 1"]:
            self.assertGreater(worth(slack(Flight(text))), 0)

    def test_by_the_growth_of_u_and_v(self):
        for text in TEXTS:
            course = Course(text)
            _, u, v, _ = course.marks[0]
            _, far_u, far_v, _ = course.marks[-1]
            expected = (far_u - u) * (far_v - v) - course.whole ** 2
            self.assertEqual(slack(flight=Flight(text)), pair(expected))
            self.assertGreaterEqual(expected, 0)

    def test_zero_exactly_with_one_pace(self):
        for first, second, third in product(("1", "2", "1/2", "3/2"), repeat=3):
            flight = Flight(f"flight 1/2 -3 1\nturn {first}\nfly 2\nturn {second}\nfly 1/3\nturn {third}\nfly 5")
            straight = len({pace for pace, _ in flight.pieces}) == 1
            self.assertIs(slack(flight) == (0, 1), straight)
            self.assertGreaterEqual(worth(slack(flight)), 0)


if __name__ == "__main__":
    unittest.main()
