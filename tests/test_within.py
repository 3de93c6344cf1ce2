import unittest
from fractions import Fraction
from itertools import product
from random import Random

from crewclocks.errors import BadEvent, BadMost, BadTime, Beyond
from crewclocks.flights import Flight, flight_of, seen_flight
from crewclocks.skies import Sky
from crewclocks.within import (
    lease_wait, least_own, leases, met_first, own_flight, reach, shows_leases, shows_own_flight, shows_reach)
from helpers import Raises, event, near, no_events, no_fractions, no_times, pair, worth
from oracle import mover_of

START, GOAL = event(0, 0), event(5, 5)
TWO = (2, 1)
MOSTS = [Fraction(1), Fraction(2), Fraction(3, 2), Fraction(9, 8), Fraction(5)]
WORTHS = [Fraction(0), Fraction(1), Fraction(2), Fraction(4), Fraction(1, 2), Fraction(9, 4), Fraction(7, 3), Fraction(-1), Fraction(-1, 3)]


def no_mosts():
    """Values of all kinds, none of them a fraction from 1 on."""
    return no_fractions() + [(0, 1), (1, 2), (99, 100), (-1, 1), (-2, 1), (-1, 2)]


def grown(u, v, more_u, more_v):
    return event(u, v), event(u + more_u, v + more_v)


def led(pieces):
    """How much u and v grow along pieces, and their own time, by Fractions."""
    u, v, whole = Fraction(0), Fraction(0), Fraction(0)
    for pace, time in pieces:
        u, v, whole = u + worth(pace) * worth(time), v + worth(time) / worth(pace), whole + worth(time)
    return u, v, whole


def random_pieces(chance, most, many):
    """Pieces of paces from 1 / most to most, both ends among them."""
    low = 1 / most
    found = []
    for _ in range(many):
        part = Fraction(chance.randint(0, 4), 4)
        found.append((pair(low + (most - low) * part), pair(Fraction(chance.randint(1, 9), chance.randint(1, 3)))))
    return tuple(found)


def breaks_by_hand(most, hold, wait, grantor, holder):
    """Whether these texts are flights that show that a lease breaks, by Fractions."""
    grantor, holder = mover_of(grantor), mover_of(holder)
    for mover in (grantor, holder):
        if any(not 1 / most <= pace <= most for _, _, _, pace, _ in mover.spans[:-1]):
            return False
    found = holder.hears(grantor.u if not grantor.spans else grantor.spans[0][1], grantor.spans[0][2])
    if not found:
        return False
    (_, heard), = found
    answers = grantor.hears(*holder.at(heard))
    if not answers:
        return False
    (_, answered), = answers
    if holder.time < heard + hold or grantor.time < answered + wait:
        return False
    here, there = holder.at(heard + hold), grantor.at(answered + wait)
    return here == there or here[0] > there[0] or here[1] > there[1]


class Reach(Raises, unittest.TestCase):
    def test_by_what_u_and_v_grow_by(self):
        kinds = {}
        for most, more_u, more_v in product(MOSTS, WORTHS, WORTHS):
            one, other = grown(Fraction(1, 3), Fraction(-5, 2), more_u, more_v)
            told = reach(one, other, pair(most))
            if (more_u, more_v) == (0, 0):
                self.assertEqual(told, ("plan", ()))
            elif more_u < 0 or more_v < 0:
                self.assertEqual(told, ("behind",))
            elif more_u > most ** 2 * more_v:
                self.assertEqual(told, ("beyond", "u"))
            elif more_v > most ** 2 * more_u:
                self.assertEqual(told, ("beyond", "v"))
            else:
                self.assertEqual(told[0], "plan")
                self.assertEqual(led(told[1])[:2], (more_u, more_v))
                self.assertLessEqual(len(told[1]), 2)
                for pace, time in told[1]:
                    self.assertIn(worth(pace), (most, 1 / most))
                    self.assertGreater(worth(time), 0)
            self.assertIs(shows_reach(one, other, pair(most), told), True)
            kind = told[:1] + (len(told[1]),) if told[0] == "plan" else told
            kinds[kind] = kinds.get(kind, 0) + 1
        self.assertEqual(set(kinds), {("plan", 0), ("plan", 1), ("plan", 2), ("behind",), ("beyond", "u"), ("beyond", "v")})

    def test_wherever_flights_within_most_come_to(self):
        chance = Random(71)
        for most in MOSTS * 40:
            pieces = random_pieces(chance, most, chance.randint(0, 5))
            u, v, _ = led(pieces)
            one, other = grown(Fraction(chance.randint(-5, 5)), Fraction(chance.randint(-5, 5), 2), u, v)
            told = reach(one, other, pair(most))
            self.assertEqual(told[0], "plan")
            self.assertEqual(led(told[1])[:2], (u, v))

    def test_just_at_the_bound_and_just_beyond(self):
        tiny = Fraction(1, 10 ** 9)
        for most in (Fraction(2), Fraction(3, 2)):
            square = most ** 2
            for one, other, pace in ((START, event(square, 1), most), (START, event(1, square), 1 / most)):
                self.assertEqual(reach(one, other, pair(most)), ("plan", ((pair(pace), pair(most)),)))
            self.assertEqual(reach(START, event(square + tiny, 1), pair(most)), ("beyond", "u"))
            self.assertEqual(reach(START, event(1, square + tiny), pair(most)), ("beyond", "v"))
            self.assertEqual(len(reach(START, event(square - tiny, 1), pair(most))[1]), 2)
            self.assertEqual(len(reach(START, event(1, square - tiny), pair(most))[1]), 2)

    def test_behind_in_one_in_both(self):
        for other in (event(-1, 5), event(5, -1), event(-1, -1), event(0, -1), event(-1, 0), event(-1, 100), event(100, -1)):
            for most in MOSTS:
                self.assertEqual(reach(START, other, pair(most)), ("behind",))

    def test_flashes_alone_lead_along_u_or_v(self):
        for most in MOSTS:
            self.assertEqual(reach(START, event(3, 0), pair(most)), ("beyond", "u"))
            self.assertEqual(reach(START, event(0, 3), pair(most)), ("beyond", "v"))

    def test_most_1(self):
        one = (1, 1)
        self.assertEqual(reach(START, GOAL, one), ("plan", (((1, 1), (5, 1)),)))
        self.assertEqual(reach(START, event(5, "11/2"), one), ("beyond", "v"))
        self.assertEqual(reach(START, event("11/2", 5), one), ("beyond", "u"))
        self.assertEqual([reach(START, event(-1, -1), one), reach(GOAL, GOAL, one)], [("behind",), ("plan", ())])
        for pieces, right in (((((1, 1), (2, 1)), ((1, 1), (3, 1))), True), ((((1, 1), (2, 1)), ((1, 1), (2, 1))), False),
                              ((((1, 1), (1, 1)),) * 5, False), ((((1, 1), (5, 1)),), True), ((), False)):
            self.assertIs(shows_reach(START, GOAL, one, ("plan", pieces)), right)

    def test_values_that_are_shown(self):
        quick, slow = ((2, 1), (2, 1)), ((1, 2), (2, 1))
        for pieces, right in (((quick, slow), True), ((slow, quick), True), (((2, 1), (1, 1)), False), ((quick,), False), ((), False),
                              ((((2, 1), (1, 1)), ((2, 1), (1, 1)), slow), False), ((quick, slow, slow), False),
                              ((((1, 1), (5, 1)),), False), ((quick, ((1, 3), (2, 1))), False), ((quick, slow + ((1, 1),)), False),
                              ((quick, ((1, 2), (0, 1))), False), ((quick, slow, ((2, 1), (0, 1))), False), ((quick, ((1, 2), 2)), False),
                              ((quick, ((1, 2), (True, 1))), False), ((quick, ((2, 4), (2, 1))), False), ([quick, slow], False),
                              ((list(quick), slow), False), ((quick, ((1, 2), (-2, 1))), False), ((quick, ((1, 2), (4, 2))), False),
                              ((quick, None), False), (None, False), ("ab", False), (quick, False), ({quick: slow}, False)):
            self.assertIs(shows_reach(START, GOAL, TWO, ("plan", pieces)), right, pieces)
        self.assertIs(shows_reach(START, event(8, 2), TWO, ("plan", (((2, 1), (1, 1)), ((2, 1), (3, 1))))), True)
        self.assertIs(shows_reach(START, event(8, 2), TWO, ("plan", (((2, 1), (4, 1)), ((1, 2), (0, 1))))), False)
        # Paces between the bounds lead there as well, but they are not told by reach.
        self.assertIs(shows_reach(START, event(7, 2), TWO, ("plan", (((3, 2), (2, 1)), ((4, 1), (1, 1))))), False)

    def test_values_near_right_ones(self):
        for other in (GOAL, event(8, 2), event(9, 2), event(2, 9), event(-1, 2), START):
            told = reach(START, other, TWO)
            for value in near(told) + no_fractions() + [Sky("sky\nship a 0 0 1")]:
                if not (told[0] == "plan" and value == told):
                    self.assertIs(shows_reach(START, other, TWO, value), False, value)
            for value in (("plan", ()), ("behind",), ("beyond", "u"), ("beyond", "v"), ("beyond", "w"), ("plan",), ("beyond",)):
                self.assertIs(shows_reach(START, other, TWO, value), value == told)

    def test_seen_by_onlookers_the_bounds_are_others(self):
        # What is beyond for one bound, seen by an onlooker, may be within it.
        self.assertEqual(reach(START, event(9, 2), TWO)[0], "beyond")
        self.assertEqual(reach(START, event(3, 6), TWO)[0], "plan")

    def test_by_name_twice_and_unchanged(self):
        value = ["plan", [[1]]]
        self.assertEqual(reach(most=TWO, other=GOAL, one=START), reach(event(0, 0), event(5, 5), (2, 1)))
        self.assertIs(shows_reach(value=value, most=TWO, other=GOAL, one=START), False)
        self.assertEqual(value, ["plan", [[1]]])


class LeastOwn(Raises, unittest.TestCase):
    def test_the_sum_by_both_paces(self):
        chance = Random(72)
        for most in MOSTS * 30:
            u, v, whole = led(random_pieces(chance, most, chance.randint(0, 4)))
            one, other = grown(Fraction(-7, 3), Fraction(2), u, v)
            least = least_own(one, other, pair(most))
            self.assertEqual(least, pair((u + v) / (most + 1 / most)))
            self.assertEqual(worth(least), led(reach(one, other, pair(most))[1])[2])
            self.assertGreaterEqual(whole, worth(least))

    def test_plain_ones(self):
        self.assertEqual(least_own(START, GOAL, TWO), (4, 1))
        self.assertEqual(least_own(START, GOAL, (1, 1)), (5, 1))
        self.assertEqual(least_own(START, START, TWO), (0, 1))
        self.assertEqual(least_own(START, event(8, 2), TWO), (4, 1))
        self.assertEqual(least_own(most=(3, 1), other=event(5, 5), one=START), (3, 1))

    def test_what_cannot_be_come_to(self):
        for other in (event(9, 2), event(2, 9), event(-1, 1), event(1, -1), event(-1, -1), event(1, 0), event(0, 1)):
            for call, rest in ((least_own, ()), (own_flight, ((1, 1),)), (shows_own_flight, ((1, 1), None)),
                               (own_flight, ((0, 1),)), (shows_own_flight, ((0, 1), ("less", (1, 1))))):
                with self.assertRaises(Beyond) as caught:
                    call(START, other, TWO, *rest)
                self.assertIs(type(caught.exception), Beyond)
                self.assertEqual(caught.exception.value, reach(START, other, TWO))


class OwnFlight(Raises, unittest.TestCase):
    def check(self, one, other, most, own):
        """What own_flight tells, checked against Fractions; its word."""
        u, v = worth(other[0]) - worth(one[0]), worth(other[1]) - worth(one[1])
        told = own_flight(one, other, pair(most), pair(own))
        self.assertIs(shows_own_flight(one, other, pair(most), pair(own), told), True)
        if own < (u + v) / (most + 1 / most):
            self.assertEqual(told, ("less", pair((u + v) / (most + 1 / most))))
        elif own ** 2 > u * v:
            self.assertEqual(told, ("more", pair(u * v)))
        else:
            self.assertEqual(told[0], "plan")
            self.assertLessEqual(len(told[1]), 2)
            self.assertEqual(led(told[1]), (u, v, own))
            for pace, time in told[1]:
                self.assertTrue(1 / most <= worth(pace) <= most)
                self.assertGreater(worth(time), 0)
        return told[0]

    def test_just_as_long_as_a_flight_took(self):
        chance = Random(73)
        for most in MOSTS * 40:
            u, v, whole = led(random_pieces(chance, most, chance.randint(0, 4)))
            one, other = grown(Fraction(1, 2), Fraction(-3), u, v)
            self.assertEqual(self.check(one, other, most, whole), "plan")

    def test_least_below_between_and_above(self):
        chance, words = Random(74), {}
        tiny = Fraction(1, 10 ** 8)
        for most in MOSTS * 20:
            u, v, _ = led(random_pieces(chance, most, chance.randint(0, 4)))
            one, other = grown(Fraction(0), Fraction(9, 5), u, v)
            least = (u + v) / (most + 1 / most)
            self.assertEqual(self.check(one, other, most, least), "plan")
            if least > 0:
                self.assertEqual(self.check(one, other, most, least - min(least, tiny)), "less")
            self.assertEqual(self.check(one, other, most, u + v), "plan" if u + v == 0 else "more")
            for part in range(1, 8):
                word = self.check(one, other, most, least * (1 + Fraction(part, 20)))
                words[word] = words.get(word, 0) + 1
        self.assertGreater(min(words.values()), 30)

    def test_the_straight_ones_own_time(self):
        for u, v in ((4, 4), (8, 2), (2, 8), (9, 4), (Fraction(9, 4), 1), (1, Fraction(16, 9))):
            root = Fraction(int((u * v * 144) ** Fraction(1, 2)), 12)
            self.assertEqual(root ** 2, u * v)
            for most in (Fraction(2), Fraction(3)):
                other = event(u, v)
                self.assertEqual(self.check(START, other, most, root), "plan")
                told = own_flight(START, other, pair(most), pair(root))
                self.assertEqual(told, ("plan", ((pair(u / root), pair(root)),)))
                self.assertEqual(self.check(START, other, most, root + Fraction(1, 10 ** 9)), "more")

    def test_where_its_square_root_is_no_fraction(self):
        # 10 lies between the squares of 316227766 and of 316227767 by 10 ** 8 each.
        low, high = Fraction(316227766, 10 ** 8), Fraction(316227767, 10 ** 8)
        other = event(5, 2)
        self.assertEqual(self.check(START, other, Fraction(2), low), "plan")
        self.assertEqual(own_flight(START, other, TWO, pair(high)), ("more", (10, 1)))

    def test_most_1(self):
        for own, told in (((5, 1), ("plan", (((1, 1), (5, 1)),))), ((49, 10), ("less", (5, 1))), ((51, 10), ("more", (25, 1)))):
            self.assertEqual(own_flight(START, GOAL, (1, 1), own), told)

    def test_the_same_event(self):
        self.assertEqual(own_flight(GOAL, GOAL, TWO, (0, 1)), ("plan", ()))
        self.assertEqual(own_flight(GOAL, GOAL, TWO, (1, 9)), ("more", (0, 1)))
        self.assertIs(shows_own_flight(GOAL, GOAL, TWO, (0, 1), ("plan", ())), True)
        self.assertIs(shows_own_flight(GOAL, GOAL, TWO, (1, 9), ("plan", ())), False)
        self.assertIs(shows_own_flight(GOAL, GOAL, TWO, (0, 1), ("plan", (((1, 1), (0, 1)),))), False)

    def test_just_at_the_bound(self):
        self.assertEqual(own_flight(START, event(8, 2), TWO, (4, 1)), ("plan", (((2, 1), (4, 1)),)))
        self.assertEqual(own_flight(START, event(2, 8), TWO, (4, 1)), ("plan", (((1, 2), (4, 1)),)))
        self.assertEqual(own_flight(START, event(8, 2), TWO, (3, 1)), ("less", (4, 1)))
        self.assertEqual(own_flight(START, event(8, 2), TWO, (5, 1)), ("more", (16, 1)))

    def test_values_that_are_shown(self):
        first, rest = ((2, 1), (19, 14)), ((8, 11), (22, 7))
        for pieces, right in (((first, rest), True), ((rest, first), True), ((first, rest, ((1, 1), (0, 1))), False), ((first,), False),
                              ((((2, 1), (19, 28)), ((2, 1), (19, 28)), rest), False), ((((1, 1), (9, 2)),), False),
                              ((((1, 1), (5, 1)),), False), ((((2, 1), (2, 1)), ((1, 2), (2, 1))), False), ((), False),
                              ([first, rest], False), ((first, list(rest)), False), (None, False), ((first, ((8, 11), 3)), False)):
            self.assertIs(shows_own_flight(START, GOAL, TWO, (9, 2), ("plan", pieces)), right, pieces)
        # Out and back at 1 / 2 and 2, not by most 3 / 2; another way with most 3.
        self.assertIs(shows_own_flight(START, GOAL, (3, 1), (4, 1), ("plan", (((2, 1), (2, 1)), ((1, 2), (2, 1))))), True)
        self.assertIs(shows_own_flight(START, GOAL, TWO, (4, 1), ("plan", (((2, 1), (2, 1)), ((1, 2), (2, 1))))), True)
        self.assertIs(shows_own_flight(START, event("13/2", "19/6"), TWO, (9, 2), ("plan", (((1, 1), (5, 2)), ((2, 1), (2, 1))))), False)

    def test_paces_beyond_most_are_not_shown(self):
        pieces = (((2, 1), (2, 1)), ((1, 2), (2, 1)))
        self.assertIs(shows_own_flight(START, GOAL, (3, 2), (4, 1), ("plan", pieces)), False)
        quick = (((5, 2), (10, 7)), ((2, 5), (25, 7)))
        self.assertEqual(led(quick), (5, Fraction(4, 7) + Fraction(125, 14), 5))
        self.assertIs(shows_own_flight(START, pair_end(quick), TWO, (5, 1), ("plan", quick)), False)
        self.assertIs(shows_own_flight(START, pair_end(quick), (5, 2), (5, 1), ("plan", quick)), True)
        # There are pieces within 2 that take as long; these are within 3.
        for pieces in ((((3, 1), (57, 92)), ((17, 21), (357, 92))), (((17, 21), (357, 92)), ((3, 1), (57, 92)))):
            self.assertEqual(led(pieces), (5, 5, Fraction(9, 2)))
            for most in ((2, 1), (3, 1)):
                self.assertEqual(own_flight(START, GOAL, most, (9, 2))[0], "plan")
                self.assertIs(shows_own_flight(START, GOAL, most, (9, 2), ("plan", pieces)), most == (3, 1))

    def test_values_near_right_ones(self):
        for own in ((3, 1), (4, 1), (9, 2), (5, 1), (6, 1), (0, 1)):
            told = own_flight(START, GOAL, TWO, own)
            for value in near(told) + no_fractions() + [GOAL, ("plan",), ("less",), ("more",)]:
                self.assertIs(shows_own_flight(START, GOAL, TWO, own, value), False, value)
            for value in (("less", (4, 1)), ("more", (25, 1)), ("less", (3, 1)), ("more", (5, 1)), ("more", (36, 1)), ("less", (8, 2))):
                self.assertIs(shows_own_flight(START, GOAL, TWO, own, value), value == told)

    def test_by_name(self):
        told = own_flight(own=(9, 2), most=TWO, other=GOAL, one=START)
        self.assertEqual(told, own_flight(START, GOAL, TWO, (9, 2)))
        self.assertIs(shows_own_flight(value=told, own=(9, 2), most=TWO, other=GOAL, one=START), True)


def pair_end(pieces):
    u, v, _ = led(pieces)
    return event(u, v)


class MetFirst(unittest.TestCase):
    def check(self, flight, here, most):
        """What met_first tells, and that it is so, and at no earlier time, or never."""
        told = met_first(flight, here, pair(most))
        whole = worth(flight.whole)
        times = [Fraction(k, 24) * whole for k in range(25)] + [worth(stop[0]) for stop in flight.stops]
        if told is None:
            self.assertFalse([time for time in times if reach(here, flight.at(pair(time)), pair(most))[0] == "plan"])
            return None
        time, place = told
        self.assertEqual(place, flight.at(time))
        self.assertEqual(reach(here, place, pair(most))[0], "plan")
        for earlier in times + [worth(time) - Fraction(1, 10 ** 9)]:
            if 0 <= earlier < worth(time):
                self.assertNotEqual(reach(here, flight.at(pair(earlier)), pair(most))[0], "plan")
        return time

    def test_random_flights(self):
        chance, kinds = Random(75), {"never": 0, "at once": 0, "later": 0, "on another piece": 0}
        for most in MOSTS * 120:
            steps = []
            for _ in range(chance.randint(0, 5)):
                steps.append(chance.choice([("fly", pair(Fraction(chance.randint(1, 8), 2))), ("turn", pair(chance.choice([2, 3, Fraction(1, 3)])))]))
            flight = flight_of(event(chance.randint(-3, 6), chance.randint(-3, 6)), pair(chance.choice([1, 2, Fraction(1, 4)])), steps)
            here = event(chance.randint(-2, 2), Fraction(chance.randint(-4, 4), 2))
            time = self.check(flight, here, most)
            if time is None:
                kinds["never"] += 1
            elif time == (0, 1):
                kinds["at once"] += 1
            else:
                kinds["on another piece" if len(flight) > 1 and worth(time) > worth(flight.stops[1][0]) else "later"] += 1
        self.assertGreater(min(kinds.values()), 20, kinds)

    def test_without_a_piece(self):
        for text, most, told in (("flight 4 0 1", TWO, None), ("flight 4 1 1", TWO, ((0, 1), event(4, 1))), ("flight 0 0 7", TWO, ((0, 1), START)),
                                 ("flight 1 1 9", (1, 1), ((0, 1), event(1, 1))), ("flight -1 -1 1", (1, 1), None),
                                 ("flight 1 4 1\nturn 2", TWO, ((0, 1), event(1, 4))), ("flight 1 5 1\nturn 2", TWO, None)):
            self.assertEqual(met_first(Flight(text), START, most), told)

    def test_at_once_on_a_piece_at_a_turn_at_the_end_never(self):
        flight = Flight("flight 4 0 1\nfly 6")
        self.assertEqual(met_first(flight, START, TWO), ((4, 3), event("16/3", "4/3")))
        self.assertIsNone(met_first(flight, START, (1, 1)))
        self.assertEqual(met_first(Flight("flight 1 1 3\nfly 6"), START, TWO), ((0, 1), event(1, 1)))
        # At 4/3, where it turns, and at 4/3, its end.
        self.assertEqual(met_first(Flight("flight 4 0 1\nfly 4/3\nturn 5\nfly 1"), START, TWO), ((4, 3), event("16/3", "4/3")))
        self.assertEqual(met_first(Flight("flight 4 0 1\nfly 4/3"), START, TWO), ((4, 3), event("16/3", "4/3")))
        self.assertIsNone(met_first(Flight("flight 4 0 1\nfly 133/100"), START, TWO))
        self.assertIsNone(met_first(Flight("flight 4 0 1\nfly 1\nturn 9\nfly 50"), START, TWO))
        for turns in ("turn 1/2", "turn 2\nturn 1/4"):
            self.assertEqual(met_first(Flight(f"flight 4 0 1\nfly 1\n{turns}\nfly 50"), START, TWO), ((17, 15), event("76/15", "19/15")))

    def test_in_at_one_side_and_out_at_the_other(self):
        # Within the bound 1 it is at one event alone, where both coordinates are the same.
        flight = Flight("flight 4 0 1/2\nfly 9")
        self.assertEqual(met_first(flight, START, (1, 1)), ((8, 3), event("16/3", "16/3")))
        self.assertEqual(met_first(flight, event(-100, 0), (1, 1)), None)
        self.assertEqual(met_first(flight, event(1, 0), (1, 1)), ((2, 1), event(5, 4)))

    def test_events_behind_which_it_begins(self):
        # It begins behind: where both coordinates are less it cannot be come to, although they grow alike.
        flight = Flight("flight -3 -3 1\nfly 9")
        self.assertEqual(met_first(flight, START, (1, 1)), ((3, 1), START))
        self.assertEqual(met_first(flight, START, TWO), ((3, 1), START))
        self.assertIsNone(met_first(flight, event(7, 7), TWO))
        self.assertEqual(met_first(flight, event(6, 6), TWO), ((9, 1), event(6, 6)))

    def test_flights_that_pass_behind(self):
        # Where u is 0 at last, v is too great; where it was not yet, u was below 0.
        self.assertIsNone(met_first(Flight("flight -1 -10 1/10\nfly 50"), START, TWO))
        self.assertIsNone(met_first(Flight("flight -10 -1 10\nfly 50"), START, TWO))
        self.assertIsNone(met_first(Flight("flight -5 -10 1/2\nfly 50"), START, (1, 1)))
        self.assertIsNone(met_first(Flight("flight -10 -5 2\nfly 50"), START, (1, 1)))
        for text in ("flight -1 -10 1/10\nfly 20\nturn 100\nfly 90", "flight -10 -1 10\nfly 20\nturn 1/100\nfly 90"):
            self.assertGreater(worth(self.check(Flight(text), START, Fraction(2))), 20)

    def test_by_name(self):
        flight = Flight("flight 4 0 1\nfly 6")
        self.assertEqual(met_first(most=TWO, event=START, flight=flight), met_first(Flight(flight.text), START, TWO))


class Leases(Raises, unittest.TestCase):
    HOLDS = [Fraction(0), Fraction(1), Fraction(3), Fraction(5, 7)]

    def test_lease_wait(self):
        for most, hold in product(MOSTS, self.HOLDS):
            self.assertEqual(lease_wait(pair(most), pair(hold)), pair(hold * most ** 2))
        self.assertEqual(lease_wait(hold=(3, 1), most=TWO), (12, 1))

    def test_safe_just_from_lease_wait_on(self):
        tiny = Fraction(1, 10 ** 9)
        for most, hold in product(MOSTS, self.HOLDS):
            bound = hold * most ** 2
            for wait in (bound, bound + tiny, bound + 1, 2 * bound):
                self.assertEqual(leases(pair(most), pair(hold), pair(wait)), ("safe",))
                self.assertIs(shows_leases(pair(most), pair(hold), pair(wait), ("safe",)), True)
            for wait in (Fraction(0), bound - tiny, bound / 2):
                if 0 <= wait < bound:
                    word, grantor, holder = told = leases(pair(most), pair(hold), pair(wait))
                    self.assertEqual(word, "both")
                    self.assertTrue(breaks_by_hand(most, hold, wait, grantor, holder))
                    self.assertIs(shows_leases(pair(most), pair(hold), pair(wait), told), True)
                    self.assertIs(shows_leases(pair(most), pair(hold), pair(wait), ("safe",)), False)
                    self.assertEqual((Flight(grantor).text, Flight(holder).text), (grantor, holder))

    def test_no_flights_break_a_safe_lease(self):
        chance, many = Random(76), 0
        for most in [Fraction(2), Fraction(3, 2)] * 300:
            hold = Fraction(chance.randint(1, 3))
            wait = hold * most ** 2
            texts = []
            for _ in range(2):
                rows = [f"flight {chance.randint(-3, 3)} {chance.randint(-3, 3)} 1"]
                pace = Fraction(1)
                for piece, _ in random_pieces(chance, most, 3):
                    rows.extend([f"turn {worth(piece) / pace}", f"fly {chance.choice([1, 3, 20, 90])}"])
                    pace = worth(piece)
                texts.append("\n".join(rows))
            self.assertFalse(breaks_by_hand(most, hold, wait, *texts))
            self.assertIs(shows_leases(pair(most), pair(hold), pair(wait), ("both",) + tuple(texts)), False)
            less = Fraction(0)
            right = breaks_by_hand(most, hold, less, *texts)
            self.assertIs(shows_leases(pair(most), pair(hold), pair(less), ("both",) + tuple(texts)), right)
            many += right
        self.assertGreater(many, 20)

    def shown(self, grantor, holder, most=TWO, hold=(3, 1), wait=(11, 1)):
        return shows_leases(most, hold, wait, ("both", grantor, holder))

    def test_flights_that_break_the_lease(self):
        grantor, holder = "flight 0 0 1/2\nfly 13", "flight 1 0 2\nfly 3"
        self.assertIs(self.shown(grantor, holder), True)
        # Longer ones, the holder on the other side, both shifted, turns at the end and without a piece.
        self.assertIs(self.shown(grantor + "\nfly 9", holder + "\nfly 7/2"), True)
        self.assertIs(self.shown("flight 0 0 2\nfly 13", "flight 0 1 1/2\nfly 3"), True)
        self.assertIs(self.shown("flight 5 -3 1/2\nfly 13", "flight 6 -3 2\nfly 3"), True)
        self.assertIs(self.shown("flight 0 0 1/2\nfly 13\nturn 9", "flight 1 0 2\nfly 1\nturn 1\nfly 2\nturn 7"), True)
        self.assertIs(self.shown("flight 0 0 9\nturn 1/18\nfly 13", "flight 1 0 1\nturn 2\nfly 3"), True)
        # Heard on the way, at 2, and the answer at 8.
        self.assertIs(self.shown("flight 0 0 1/2\nfly 19", "flight 0 -1 2\nfly 5"), True)
        for wait, right in ((11, True), ("35/3", True), (12, False)):
            self.assertIs(self.shown("flight 0 0 1/2\nfly 14", holder, wait=pair(wait)), right)

    def test_flights_that_do_not(self):
        grantor, holder = "flight 0 0 1/2\nfly 13", "flight 1 0 2\nfly 3"
        for texts in ((holder, grantor), (grantor, grantor), (holder, holder), ("flight 0 0 1/2\nfly 12", holder), (grantor, "flight 1 0 2\nfly 2"),
                      ("flight 0 0 1/2\nfly 129/10", holder), (grantor, "flight 1 0 2\nfly 29/10"),
                      ("flight 0 0 1/3\nfly 14", holder), (grantor, "flight 1 0 3\nfly 3"), ("flight 0 0 1/2\nfly 13\nturn 5\nfly 1", holder),
                      (grantor, "flight 1 0 2\nfly 3\nturn 2\nfly 1"), ("flight 0 0 1\nfly 20", holder), (grantor, "flight 1 0 1\nfly 3"),
                      (grantor, "flight 0 0 2\nfly 3"), (grantor, "flight -1 5 2\nfly 1/9"), (grantor, "flight 1 1 2\nfly 3"),
                      ("flight 0 0 1/2", holder), (grantor, "flight 1 0 2")):
            self.assertIs(self.shown(*texts), False, texts)

    def test_seen_by_an_onlooker(self):
        grantor, holder = Flight("flight 0 0 1/2\nfly 13"), Flight("flight 1 0 2\nfly 3")
        for pace in ((2, 1), (1, 3), (9, 8)):
            seen = [seen_flight(flight, pace).text for flight in (grantor, holder)]
            self.assertIs(self.shown(*seen), False)
            # With a greater bound the lease is not safe, but they end it otherwise.
            self.assertTrue(breaks_by_hand(Fraction(9), Fraction(3), Fraction(11), *seen))
            self.assertIs(self.shown(*seen, most=(9, 1)), True)

    def test_texts_that_are_no_flights(self):
        grantor, holder = "flight 0 0 1/2\nfly 13", "flight 1 0 2\nfly 3"
        for text in ["", "flight", "flight 0 0 1/2\nfly 13\n", "flight 0 0 2/4\nfly 13", grantor + " ", "Flight 0 0 1/2\nfly 13", "sky",
                     Flight(grantor), grantor.split("\n"), (grantor,), None, True, 1, {}, b"flight 0 0 1"] + no_fractions():
            self.assertIs(self.shown(text, holder), False)
            self.assertIs(self.shown(grantor, text), False)

    def test_values_near_right_ones(self):
        for wait in ((11, 1), (12, 1), (0, 1)):
            told = leases(TWO, (3, 1), wait)
            for value in near(told) + no_fractions() + [("safe", ()), ("both",), "safe", ["safe"], ("both", "", ""), ("Safe",)]:
                self.assertIs(shows_leases(TWO, (3, 1), wait, value), False, value)

    def test_by_name(self):
        told = leases(wait=(11, 1), hold=(3, 1), most=TWO)
        self.assertEqual(told, leases((2, 1), (3, 1), (11, 1)))
        self.assertIs(shows_leases(value=told, wait=(11, 1), hold=(3, 1), most=TWO), True)


class Errors(Raises, unittest.TestCase):
    EVENTS = ((reach, ()), (shows_reach, (None,)), (least_own, ()), (own_flight, ((4, 1),)), (shows_own_flight, ((4, 1), None)))

    def test_events(self):
        for value in no_events():
            for call, rest in self.EVENTS:
                # All behind the first wrong one is wrong, too.
                self.assert_told(BadEvent, value, call, value, None, None, *[None for _ in rest])
                self.assert_told(BadEvent, value, call, GOAL, value, None, *[None for _ in rest])
            self.assert_told(BadEvent, value, met_first, Flight("flight 0 0 1"), value, None)

    def test_bounds(self):
        for value in no_mosts():
            for call, rest in self.EVENTS:
                self.assert_told(BadMost, value, call, GOAL, START, value, *[None for _ in rest])
            self.assert_told(BadMost, value, met_first, Flight("flight 0 0 1"), START, value)
            self.assert_told(BadMost, value, lease_wait, value, None)
            self.assert_told(BadMost, value, leases, value, None, None)
            self.assert_told(BadMost, value, shows_leases, value, None, None, None)

    def test_times(self):
        for value in no_times():
            # Ahead of Beyond: start lies behind goal.
            self.assert_told(BadTime, value, own_flight, GOAL, START, TWO, value)
            self.assert_told(BadTime, value, shows_own_flight, GOAL, START, TWO, value, None)
            self.assert_told(BadTime, value, lease_wait, TWO, value)
            self.assert_told(BadTime, value, leases, TWO, value, None)
            self.assert_told(BadTime, value, leases, TWO, (3, 1), value)
            self.assert_told(BadTime, value, shows_leases, TWO, value, None, None)
            self.assert_told(BadTime, value, shows_leases, TWO, (3, 1), value, ("safe",))

    def test_great_numbers(self):
        great = 10 ** 12 - 11
        one, other = ((-great, 7), (great, 11)), ((great, 13), (great * 3, 2))
        for most in ((great, 1), (great, great - 2), (2, 1)):
            told = reach(one, other, most)
            self.assertIs(shows_reach(one, other, most, told), True)
            if told[0] == "plan":
                least = least_own(one, other, most)
                found = own_flight(one, other, most, least)
                self.assertIs(shows_own_flight(one, other, most, least, found), True)
                self.assertEqual(found[0], "plan")
            told = leases(most, (great, 3), (great, 7))
            self.assertIs(shows_leases(most, (great, 3), (great, 7), told), True)


if __name__ == "__main__":
    unittest.main()
