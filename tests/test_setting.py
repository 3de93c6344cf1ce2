import unittest
from fractions import Fraction
from itertools import permutations
from random import Random

from crewclocks.errors import BadTime, NoEcho
from crewclocks.events import together
from crewclocks.flights import Flight, seen_flight
from crewclocks.setting import alike, echo, half
from helpers import Raises, event, no_times, pair, worth
from oracle import mover_of

HOME, FAR, DRIFT = (Flight(text) for text in ("flight 0 0 1\nfly 20", "flight 6 -2 1\nfly 20", "flight 2 0 2\nfly 20"))


def echo_by_hand(one, other, time):
    """(heard, answered) by Fractions; None if there is no echo."""
    mine, its = mover_of(one), mover_of(other)
    found = its.hears(*mine.at(time))
    if not found:
        return None
    (_, heard), = found
    found = mine.hears(*its.at(heard))
    return (heard, found.pop()[1]) if found else None


def random_flight(chance):
    rows = [f"flight {chance.randint(-3, 3)} {chance.randint(-3, 3)} {chance.choice(['1', '2', '1/2'])}"]
    for _ in range(chance.randint(0, 5)):
        rows.append(chance.choice([f"fly {Fraction(chance.randint(1, 9), chance.choice([1, 2]))}", f"turn {chance.choice(['2', '1/2', '3'])}"]))
    return "\n".join(rows)


class Echo(Raises, unittest.TestCase):
    def test_random_flights(self):
        chance, found = Random(91), {"none": 0, "echo": 0}
        for _ in range(1500):
            one, other = random_flight(chance), random_flight(chance)
            flight = Flight(one)
            time = worth(flight.whole) * Fraction(chance.randint(0, 4), 4)
            expected = echo_by_hand(one, other, time)
            told = echo(flight, Flight(other), pair(time))
            self.assertEqual(told, expected and tuple(pair(number) for number in expected))
            found["echo" if told else "none"] += 1
            if told:
                self.assertGreater(worth(told[1]), time)
                more = half(flight, Flight(other), pair(time))
                self.assertEqual(more, (told[0], pair((time + expected[1]) / 2 - expected[0])))
            else:
                self.assert_told(NoEcho, (value := pair(time)), half, flight, Flight(other), value)
        self.assertGreater(min(found.values()), 100)

    def test_to_the_right_and_to_the_left(self):
        self.assertEqual([echo(HOME, FAR, (1, 1)), echo(HOME, DRIFT, (1, 1))], [((3, 1), (9, 1)), ((2, 1), (6, 1))])
        left = Flight("flight -2 6 1\nfly 20")
        self.assertEqual(echo(HOME, left, (1, 1)), ((3, 1), (9, 1)))
        self.assertEqual(echo(left, HOME, (1, 1)), echo(FAR, HOME, (1, 1)))

    def test_at_time_0_at_turns_and_at_ends(self):
        self.assertEqual(echo(HOME, FAR, (0, 1)), ((2, 1), (8, 1)))
        self.assertEqual(echo(HOME, FAR, (12, 1)), ((14, 1), (20, 1)))
        self.assertIsNone(echo(HOME, FAR, (121, 10)))
        # The hearing at its first event, at its end, and at its turn; the answer at the end.
        self.assertEqual(echo(HOME, Flight("flight 6 1 1"), (1, 1)), ((0, 1), (6, 1)))
        self.assertEqual(echo(HOME, Flight("flight 6 -2 1\nfly 3"), (1, 1)), ((3, 1), (9, 1)))
        self.assertIsNone(echo(HOME, Flight("flight 6 -2 1\nfly 29/10"), (1, 1)))
        self.assertEqual(echo(HOME, Flight("flight 6 -2 1\nfly 3\nturn 5\nfly 1"), (1, 1)), ((3, 1), (9, 1)))
        self.assertEqual(echo(Flight("flight 0 0 1\nfly 1\nturn 2\nfly 5"), FAR, (1, 1)), ((3, 1), (5, 1)))
        self.assertEqual(echo(Flight("flight 0 0 1\nfly 9"), FAR, (1, 1)), ((3, 1), (9, 1)))
        self.assertIsNone(echo(Flight("flight 0 0 1\nfly 89/10"), FAR, (1, 1)))
        self.assertIsNone(echo(Flight("flight 0 0 1"), FAR, (0, 1)))

    def test_where_nobody_hears(self):
        self.assertIsNone(echo(HOME, DRIFT, (15, 1)))
        self.assertIsNone(echo(HOME, HOME, (1, 1)))
        self.assertIsNone(echo(HOME, Flight("flight 6 9 1\nfly 1"), (1, 1)))
        self.assertIsNone(echo(HOME, Flight("flight 1 1 1\nfly 1"), (1, 1)))

    def test_by_name_and_twice(self):
        self.assertEqual(echo(time=(1, 1), other=FAR, one=HOME), echo(Flight(HOME.text), Flight(FAR.text), (1, 1)))
        self.assertEqual(half(time=(1, 1), other=FAR, one=HOME), half(Flight(HOME.text), Flight(FAR.text), (1, 1)))
        self.assertIs(alike(other=FAR, one=HOME), True)


class Half(Raises, unittest.TestCase):
    def test_plain_ones(self):
        self.assertEqual(half(HOME, FAR, (1, 1)), ((3, 1), (2, 1)))
        self.assertEqual(half(HOME, FAR, (5, 2)), ((9, 2), (2, 1)))
        self.assertEqual(half(FAR, HOME, (1, 1)), ((7, 1), (-2, 1)))
        self.assertEqual(half(HOME, DRIFT, (1, 1)), ((2, 1), (3, 2)))
        self.assertEqual(half(HOME, DRIFT, (3, 1)), ((6, 1), (5, 2)))

    def crews(self, chance, pace):
        texts = [f"flight {Fraction(chance.randint(-9, 9), 2)} {chance.randint(-9, 9)} {pace}" for _ in range(3)]
        return [Flight(text + chance.choice(["\nfly 200", "\nfly 50\nturn 1\nfly 150", "\nfly 7\nturn 3\nturn 1/3\nfly 193"])) for text in texts]

    def test_crews_of_one_pace_have_one_setting(self):
        chance, many = Random(92), 0
        for _ in range(60):
            pace = Fraction(chance.choice([1, 2, 3]), chance.choice([1, 2]))
            crews, settings = self.crews(chance, pace), {}
            for one, other in permutations(range(3), 2):
                self.assertIs(alike(crews[one], crews[other]), True)
                found = set()
                for time in (20, 21, Fraction(61, 2), 60):
                    told = echo(crews[one], crews[other], pair(time))
                    if told is not None:
                        heard, more = half(crews[one], crews[other], pair(time))
                        found.add(more)
                        between = pair((worth(told[1]) + time) / 2)
                        self.assertIs(together(pair(pace), crews[other].at(heard), crews[one].at(between)), True)
                self.assertLessEqual(len(found), 1)
                settings[one, other] = worth(found.pop()) if found else None
            if None not in settings.values():
                many += 1
                for one, other, third in permutations(range(3)):
                    self.assertEqual(settings[one, other], -settings[other, one])
                    self.assertEqual(settings[one, other] + settings[other, third], settings[one, third])
        self.assertGreater(many, 30)

    def test_growing_ones_for_unlike_paces(self):
        for k in (Fraction(2), Fraction(3, 2), Fraction(1, 3)):
            one, other = Flight("flight 0 0 1\nfly 1000"), Flight(f"flight 0 0 {k}\nfly 1000")
            found = []
            for time in range(1, 9):
                heard, more = half(one, other, pair(time))
                found.append(worth(more))
            steps = [later - more for more, later in zip(found, found[1:])]
            factor = max(k, 1 / k)
            self.assertEqual(set(steps), {(1 + factor * factor) / 2 - factor})
            self.assertGreater(steps[0], 0)

    def test_seen_by_onlookers(self):
        for pace in ((2, 1), (3, 7)):
            for one, other in ((HOME, FAR), (FAR, HOME), (HOME, DRIFT)):
                self.assertEqual(half(seen_flight(one, pace), seen_flight(other, pace), (1, 1)), half(one, other, (1, 1)))

    def test_no_echo(self):
        for one, other, time in ((HOME, DRIFT, (15, 1)), (HOME, FAR, (121, 10)), (HOME, HOME, (0, 1)), (Flight("flight 0 0 1"), FAR, (0, 1))):
            self.assert_told(NoEcho, time, half, one, other, time)


class Alike(unittest.TestCase):
    def test_one_pace_several_and_none(self):
        bare, turned = Flight("flight 0 0 7"), Flight("flight 0 0 1\nturn 2")
        back = Flight("flight 0 0 1\nfly 1\nturn 2\nturn 1/2\nfly 1")
        several, late = Flight("flight 0 0 1\nfly 1\nturn 2\nfly 1"), Flight("flight 0 0 4\nturn 1/2\nfly 1\nturn 9")
        for one, other, right in ((HOME, FAR, True), (HOME, DRIFT, False), (DRIFT, bare, True), (bare, bare, True), (bare, turned, True),
                                  (turned, HOME, True), (several, HOME, False), (several, bare, False), (several, several, False), (back, HOME, True),
                                  (late, DRIFT, True), (late, HOME, False), (late, late, True), (several, DRIFT, False), (back, several, False)):
            self.assertIs(alike(one, other), right)
            self.assertIs(alike(other, one), right)


class Errors(Raises, unittest.TestCase):
    def test_times(self):
        for value in no_times() + [(21, 1), (201, 10), (20 * 10 ** 9 + 1, 10 ** 9), (10 ** 12, 1)]:
            for other in (FAR, HOME):
                self.assert_told(BadTime, value, echo, HOME, other, value)
                self.assert_told(BadTime, value, half, HOME, other, value)
        for value in ((1, 1), (1, 100)):
            self.assert_told(BadTime, value, half, Flight("flight 0 0 1"), FAR, value)
        self.assertEqual(echo(Flight("flight 0 0 1"), FAR, (0, 1)), None)


if __name__ == "__main__":
    unittest.main()
