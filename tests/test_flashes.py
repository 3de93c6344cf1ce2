import unittest
from fractions import Fraction
from itertools import product
from random import Random

from crewclocks.errors import BadEvent, BadFactor, BadMany, BadModulus, BadPace, BadSide, BadTime
from crewclocks.events import mirrored, seen
from crewclocks.flashes import colour, heard, thrown, thrown_plain, told_first
from crewclocks.flights import Flight, seen_flight
from helpers import Raises, event, no_events, no_fractions, no_paces, no_times, pair, worth

FLIGHT = "flight 0 0 1\nfly 4\nturn 2\nfly 3"
TEXTS = [
    FLIGHT,
    "flight 0 0 1",
    "flight -1/2 3 2/3\nturn 1/5",
    "flight 1 -1 1/2\nfly 1\nfly 2",
    "flight 0 0 1\nfly 2\nturn 2\nfly 3\nturn 1/4\nfly 4",
    "flight -2 1 3\nturn 1/3\nfly 1\nturn 5\nturn 1/2\nfly 1/2\nturn 1/5\nfly 3\nturn 7",
]
GRID = [Fraction(k, 2) for k in range(-6, 24)]


def spans(text):
    """(own time, u, v, pace, time) of each piece of a flight, by Python's fractions; behind them its end."""
    first, *rest = text.split("\n")
    u, v, pace = [Fraction(word) for word in first.split(" ")[1:]]
    time, found = Fraction(0), []
    for line in rest:
        word, number = line.split(" ")
        if word == "turn":
            pace *= Fraction(number)
        else:
            flown = Fraction(number)
            found.append((time, u, v, pace, flown))
            time, u, v = time + flown, u + pace * flown, v + flown / pace
    return found + [(time, u, v, pace, Fraction(0))]


def expected_heard(text, u, v):
    found = set()
    for begun, here_u, here_v, pace, flown in spans(text):
        gone = (v - here_v) * pace
        if 0 <= gone <= flown and here_u + pace * gone > u:
            found.add(("left", pair(begun + gone)))
        gone = (u - here_u) / pace
        if 0 <= gone <= flown and here_v + gone / pace > v:
            found.add(("right", pair(begun + gone)))
    assert len(found) < 2
    return found.pop() if found else None


def expected_first(text, u, v):
    for begun, here_u, here_v, pace, flown in spans(text):
        gone = max(Fraction(0), (u - here_u) / pace, (v - here_v) * pace)
        if gone <= flown:
            return pair(begun + gone)
    return None


def mirror_flight(text):
    """The text of a flight with both sides exchanged."""
    first, *rest = text.split("\n")
    _, u, v, pace = first.split(" ")
    lines = [f"flight {v} {u} {1 / Fraction(pace)}"]
    for line in rest:
        word, number = line.split(" ")
        lines.append(f"turn {1 / Fraction(number)}" if word == "turn" else line)
    return "\n".join(lines)


class Heard(Raises, unittest.TestCase):
    def test_a_grid_of_events(self):
        kinds = set()
        for text in TEXTS:
            flight = Flight(text)
            for u, v in product(GRID, GRID):
                told = heard(flight, event(u, v))
                self.assertEqual(told, expected_heard(text, u, v))
                kinds.add(told and told[0])
        self.assertEqual(kinds, {"left", "right", None})

    def test_to_the_left_and_right_of_the_flight(self):
        flight = Flight(FLIGHT)
        self.assertEqual(heard(flight, event(-1, 2)), ("left", (2, 1)))
        self.assertEqual(heard(flight, event(2, -1)), ("right", (2, 1)))
        self.assertEqual(heard(flight, event(-100, "9/2")), ("left", (5, 1)))
        self.assertEqual(heard(flight, event(6, -100)), ("right", (5, 1)))
        self.assertEqual(heard(flight, event(3, 2)), ("right", (3, 1)))
        self.assertEqual(heard(flight, event(2, 3)), ("left", (3, 1)))

    def test_the_remark_of_section_6(self):
        flight = Flight(FLIGHT)
        self.assertEqual(flight.at((6, 1)), event(8, 5))
        self.assertEqual(flight.at((5, 1)), event(6, "9/2"))
        self.assertEqual(heard(flight, event(2, 5)), ("left", (6, 1)))
        self.assertEqual(heard(flight, event(6, 3)), ("right", (5, 1)))

    def test_never_at_its_own_event(self):
        for text in TEXTS:
            for begun, u, v, pace, flown in spans(text):
                for gone in (Fraction(0), flown / 3, flown):
                    self.assertIsNone(heard(Flight(text), event(u + pace * gone, v + gone / pace)))

    def test_the_first_and_the_last_event_belong_to_it(self):
        for text in TEXTS:
            flight = Flight(text)
            for time, (u, v) in (((0, 1), flight.start), (flight.whole, flight.goal)):
                self.assertEqual(heard(flight, (pair(worth(u) - 3), v)), ("left", time))
                self.assertEqual(heard(flight, (u, pair(worth(v) - 3))), ("right", time))

    def test_at_the_very_turns(self):
        for text in TEXTS:
            for begun, u, v, _, _ in spans(text):
                self.assertEqual(heard(Flight(text), event(u - Fraction(1, 7), v)), ("left", pair(begun)))
                self.assertEqual(heard(Flight(text), event(u, v - Fraction(1, 7))), ("right", pair(begun)))
                self.assertIsNone(heard(Flight(text), event(u + 100, v)))
                self.assertIsNone(heard(Flight(text), event(u, v + 100)))

    def test_ahead_of_the_first_and_behind_the_last_event(self):
        flight = Flight(FLIGHT)
        for at in (event(-1, "-1/9"), event("-1/9", -1), event(-1, -1), event(5, 6), event(11, 5), event(12, 12),
                   event(10, "23/4"), event("21/2", 5), event(20, 0), event(0, 20)):
            self.assertIsNone(heard(flight, at))

    def test_without_a_piece(self):
        flight = Flight("flight 2 3 5\nturn 2")
        self.assertEqual(heard(flight, event(1, 3)), ("left", (0, 1)))
        self.assertEqual(heard(flight, event(2, 1)), ("right", (0, 1)))
        for at in (event(2, 3), event(3, 3), event(2, 4), event(1, 2), event(1, 4), event(3, 2), event(0, 0)):
            self.assertIsNone(heard(flight, at))

    def test_the_same_for_an_onlooker(self):
        for text, pace in product(TEXTS, ("2", "1/3", "7/5")):
            flight, look = Flight(text), seen_flight(Flight(text), pair(pace))
            for u, v in product(GRID[::3], GRID[::2]):
                at = event(u, v)
                self.assertEqual(heard(look, seen(at, pair(pace))), heard(flight, at))
                self.assertEqual(told_first(look, seen(at, pair(pace))), told_first(flight, at))

    def test_with_both_sides_exchanged(self):
        other = {"left": "right", "right": "left"}
        for text in TEXTS:
            flight, glass = Flight(text), Flight(mirror_flight(text))
            for u, v in product(GRID[::2], GRID[::3]):
                told = heard(flight, event(u, v))
                expected = told and (other[told[0]], told[1])
                self.assertEqual(heard(glass, mirrored(event(u, v))), expected)

    def test_by_name_and_again(self):
        flight, at = Flight(FLIGHT), event(2, 5)
        self.assertEqual(heard(event=at, flight=flight), heard(flight, at))
        self.assertEqual(heard(Flight(FLIGHT), event(2, 5)), heard(flight, at))
        self.assertEqual((flight.text, at), (FLIGHT, event(2, 5)))

    def test_what_is_no_event(self):
        for value in no_events():
            self.assert_told(BadEvent, value, heard, Flight(FLIGHT), value)
            self.assert_told(BadEvent, value, told_first, Flight(FLIGHT), value)


class Colour(Raises, unittest.TestCase):
    PACES = [pair(text) for text in ("1", "2", "1/2", "3/7", "1000/3")]

    def test_both_sides(self):
        for sender, hearer in product(self.PACES, repeat=2):
            self.assertEqual(colour("left", sender, hearer), pair(worth(sender) / worth(hearer)))
            self.assertEqual(colour("right", sender, hearer), pair(worth(hearer) / worth(sender)))
            self.assertEqual(colour(hearer=hearer, side="left", sender=sender), colour("left", sender, hearer))

    def test_the_same_pace_changes_nothing(self):
        for pace, side in product(self.PACES, ("left", "right")):
            self.assertEqual(colour(side, pace, pace), (1, 1))

    def test_the_time_between_flashes_by_that_between_hearings(self):
        for sender, hearer in product(self.PACES, repeat=2):
            for side, flight in (("left", f"flight 1000 -5000 {Fraction(*hearer)}\nfly 100000000"),
                                 ("right", f"flight -5000 1000 {Fraction(*hearer)}\nfly 100000000")):
                course = Flight(f"flight 0 0 {Fraction(*sender)}\nfly 1")
                times = []
                for sent in ((1, 4), (3, 4)):
                    told = heard(Flight(flight), course.at(sent))
                    self.assertEqual(told[0], side)
                    times.append(worth(told[1]))
                self.assertEqual(Fraction(1, 2) / (times[1] - times[0]), worth(colour(side, sender, hearer)))

    def test_there_and_on_again(self):
        for one, other, third in product(self.PACES, repeat=3):
            for side in ("left", "right"):
                product_of_both = worth(colour(side, one, other)) * worth(colour(side, other, third))
                self.assertEqual(worth(colour(side, one, third)), product_of_both)

    def test_errors_in_their_sequence(self):
        for side in ["Left", "LEFT", "", "l", "leftright", "u", "v", ("left",), ["left"], b"left"] + no_fractions():
            self.assert_told(BadSide, side, colour, side, (1, 1), (1, 1))
            self.assert_told(BadSide, side, colour, side, None, None)
        for value, side in product(no_paces(), ("left", "right")):
            self.assert_told(BadPace, value, colour, side, value, (1, 1))
            self.assert_told(BadPace, value, colour, side, (1, 1), value)
            self.assert_told(BadPace, value, colour, side, value, [])


class ToldFirst(unittest.TestCase):
    def test_a_grid_of_events(self):
        for text in TEXTS:
            for u, v in product(GRID, GRID):
                self.assertEqual(told_first(Flight(text), event(u, v)), expected_first(text, u, v))

    def test_ahead_of_the_beginning_or_there(self):
        for text in TEXTS:
            u, v = [worth(number) for number in Flight(text).start]
            for less_u, less_v in product((0, 1, 50), repeat=2):
                self.assertEqual(told_first(Flight(text), event(u - less_u, v - less_v)), (0, 1))

    def test_on_legs_at_turns_and_at_the_end(self):
        for text in TEXTS:
            flight = Flight(text)
            for begun, u, v, pace, flown in spans(text):
                for gone in (Fraction(0), flown / 5, flown):
                    at = u + pace * gone, v + gone / pace
                    self.assertEqual(told_first(flight, event(*at)), pair(begun + gone))
                    self.assertEqual(told_first(flight, event(at[0] - 20, at[1])), pair(begun + gone))
                    self.assertEqual(told_first(flight, event(at[0], at[1] - 20)), pair(begun + gone))
            u, v = [worth(number) for number in flight.goal]
            for at in (event(u + 1, v), event(u, v + 1), event(u + 1, v + 1), event(u - 90, v + 1), event(u + 1, v - 90)):
                self.assertIsNone(told_first(flight, at))

    def test_never_later_than_a_flash(self):
        for text in TEXTS:
            for u, v in product(GRID, GRID):
                told = heard(Flight(text), event(u, v))
                if told is not None:
                    self.assertEqual(told_first(Flight(text), event(u, v)), told[1])

    def test_by_name(self):
        self.assertEqual(told_first(event=event(6, 3), flight=Flight(FLIGHT)), (5, 1))


class Thrown(Raises, unittest.TestCase):
    TIMES = [pair(text) for text in ("0", "1", "3", "1/2", "1000/9", "999999999999/1000000000000")]
    FACTORS = [pair(text) for text in ("2", "3/2", "1000001/1000000", "17/10", "999999999999")]
    PRIMES = [3, 5, 7, 11, 13, 97, 101, 9967, 9973]

    def test_plain(self):
        for time, factor, many in product(self.TIMES, self.FACTORS, (0, 1, 2, 7, 59, 60)):
            self.assertEqual(thrown_plain(time, factor, many), pair(worth(time) * worth(factor) ** many))
        self.assertEqual(thrown_plain(many=2, factor=(3, 2), time=(3, 1)), (27, 4))

    def test_two_ships_that_part(self):
        for low, high in ((Fraction(1), Fraction(2)), (Fraction(1, 3), Fraction(3, 2))):
            paces, factor, time = [low, high], high / low, Fraction(5, 4)
            who, at = 0, time
            for many in range(6):
                self.assertEqual(thrown_plain(pair(time), pair(factor), many), pair(at))
                sent = event(paces[who] * at, at / paces[who])
                who = 1 - who
                side, heard_at = heard(Flight(f"flight 0 0 {paces[who]}\nfly 1000000"), sent)
                self.assertEqual(side, "left" if who == 1 else "right")
                at = worth(heard_at)

    def test_remainder_of_the_plain_fraction(self):
        for time, factor, prime in product(self.TIMES, self.FACTORS, self.PRIMES):
            if time[1] % prime and factor[1] % prime:
                for many in (0, 1, 2, 3, 10, 60):
                    top, bottom = thrown_plain(time, factor, many)
                    told = thrown(time, factor, many, prime)
                    self.assertIn(told, range(prime))
                    self.assertEqual((told * bottom - top) % prime, 0)

    def test_great_numbers_of_hearings(self):
        for time, factor, prime in product(self.TIMES, self.FACTORS, self.PRIMES):
            if time[1] % prime and factor[1] % prime:
                for many in (61, 10 ** 6, 10 ** 18 - 1, 10 ** 18):
                    expected = (time[0] * pow(time[1], -1, prime) * pow(factor[0], many, prime)
                                * pow(pow(factor[1], -1, prime), many, prime)) % prime
                    self.assertEqual(thrown(time, factor, many, prime), expected)
        self.assertEqual(thrown(modulus=7, many=10 ** 18, factor=(3, 2), time=(3, 1)), 6)

    def test_primes_that_divide_a_top(self):
        self.assertEqual(thrown((7, 1), (3, 2), 5, 7), 0)
        self.assertEqual(thrown((1, 1), (7, 2), 5, 7), 0)
        self.assertEqual(thrown((1, 1), (7, 2), 0, 7), 1)
        self.assertEqual(thrown((0, 1), (3, 2), 10 ** 18, 9973), 0)

    def test_time_and_factor(self):
        for value in no_times():
            self.assert_told(BadTime, value, thrown_plain, value, None, None)
            self.assert_told(BadTime, value, thrown, value, None, None, None)
        for value in no_fractions() + [(1, 1), (0, 1), (1, 2), (99, 100), (-3, 2), (-1, 1)]:
            self.assert_told(BadFactor, value, thrown_plain, (0, 1), value, None)
            self.assert_told(BadFactor, value, thrown, (0, 1), value, None, None)

    def test_many(self):
        values = [-1, 61, 10 ** 18, True, False, None, "1", (1, 1), [1], {}, (1,)]
        for value in values:
            self.assert_told(BadMany, value, thrown_plain, (1, 1), (2, 1), value)
        for value in [-1, -10 ** 6, 10 ** 18 + 1, 10 ** 30, True, False, None, "1", (1, 1), [1], {}, (1,)]:
            self.assert_told(BadMany, value, thrown, (1, 1), (2, 1), value, None)

    def test_modulus(self):
        values = [2, 1, 0, -3, -7, 4, 9, 15, 49, 91, 9409, 9971, 9991, 9972, 9974, 10007, 99991, 10 ** 9 + 7, True,
                  False, None, "7", (7, 1), [7], {7: 7}, (7,), 8051]
        for value in values:
            self.assert_told(BadModulus, value, thrown, (1, 1), (3, 2), 5, value)
        for time, factor, modulus in (((1, 3), (2, 1), 3), ((1, 1), (4, 3), 3), ((5, 14), (2, 1), 7),
                                      ((1, 1), (9974, 9973), 9973), ((1, 9973), (2, 1), 9973)):
            self.assert_told(BadModulus, modulus, thrown, time, factor, 0, modulus)

    def test_all_moduli(self):
        primes = [n for n in range(2, 10100) if all(n % k for k in range(2, int(n ** 0.5) + 1))]
        right = []
        for modulus in range(-3, 10100):
            try:
                thrown((1, 1), (2, 1), 1, modulus)
                right.append(modulus)
            except BadModulus as error:
                self.assertEqual(error.value, modulus)
        self.assertEqual(right, [n for n in primes if 3 <= n <= 9973])

    def test_random_hearings(self):
        chance = Random(6)
        for _ in range(200):
            time = pair(Fraction(chance.randint(0, 999), chance.randint(1, 999)))
            factor = pair(1 + Fraction(chance.randint(1, 999), chance.randint(1, 999)))
            prime = chance.choice(self.PRIMES)
            if time[1] % prime and factor[1] % prime:
                many = chance.randint(0, 60)
                top, bottom = thrown_plain(time, factor, many)
                self.assertEqual(thrown(time, factor, many, prime), top * pow(bottom, -1, prime) % prime)


if __name__ == "__main__":
    unittest.main()
