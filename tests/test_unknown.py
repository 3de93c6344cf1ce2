import unittest
from fractions import Fraction
from random import Random

from crewclocks.errors import BadFactors, BadOpen
from crewclocks.flights import Flight
from crewclocks.skies import Sky
from crewclocks.unknown import Open, put_in, same_end, shows_same_end, sums
from helpers import Raises, event, near, no_fractions, no_paces, pair, worth

LETTERS = "abcdef"
NONE = (0,) * 6
ONES = ((1, 1),) * 6
THERE = "open 0 0\nfly 2\nturn a\nfly 1\nback a\nfly 3"
FIRST = "open 0 0\nturn a\nfly 1\nback a\nfly 5"
BOTH = "open 0 0\nturn a\nfly 1\nturn b\nfly 2\nback b\nfly 3"


def times_of(text):
    """(start, all own time by the letters of the pace) of an open flight's text, by Fractions."""
    first, *rest = [line.split(" ") for line in text.split("\n")]
    numbers, times = dict.fromkeys(LETTERS, 0), {}
    for word, told in rest:
        if word == "fly":
            key = tuple(numbers.values())
            times[key] = times.get(key, 0) + Fraction(told)
        else:
            numbers[told] += 1 if word == "turn" else -1
    return (Fraction(first[1]), Fraction(first[2])), times


def end_by_hand(text, factors):
    (u, v), times = times_of(text)
    for numbers, time in times.items():
        pace = Fraction(1)
        for factor, number in zip(factors, numbers):
            pace *= worth(factor) ** number
        u, v = u + pace * time, v + time / pace
    return event(u, v)


def always_same(one, other):
    """Whether both end at one event for all factors: same sums but for pace 1, and this time with U and with V."""
    (start, times), (its_start, its_times) = times_of(one), times_of(other)
    rest, its_rest = times.pop(NONE, 0), its_times.pop(NONE, 0)
    return times == its_times and all(start[k] + rest == its_start[k] + its_rest for k in (0, 1))


def random_plan(chance, letters="abc", most=9):
    lines = [f"open {chance.randint(-2, 2)} {Fraction(chance.randint(-4, 4), 2)}"]
    for _ in range(chance.randint(0, most)):
        word = chance.choice(["fly", "fly", "turn", "back"])
        lines.append(f"fly {Fraction(chance.randint(1, 4), chance.choice([1, 1, 2]))}" if word == "fly" else f"{word} {chance.choice(letters)}")
    return "\n".join(lines)


def random_factors(chance):
    return tuple(pair(Fraction(chance.randint(1, 5), chance.randint(1, 5))) for _ in LETTERS)


def otherwise(text, chance):
    """A text with the same sums: its pieces parted and flown in another sequence, from another beginning now and then."""
    (u, v), times = times_of(text)
    rows = []
    for numbers, time in times.items():
        part = time * Fraction(chance.randint(1, 3), 4)
        rows.extend([(numbers, part), (numbers, time - part)])
    chance.shuffle(rows)
    more = Fraction(chance.choice([0, 0, 1, 2]))
    lines = [f"open {u - more} {v - more}"] + ([f"fly {more}"] if more else [])
    here = list(NONE)
    for numbers, time in rows:
        for k, letter in enumerate(LETTERS):
            word = "turn" if numbers[k] > here[k] else "back"
            lines.extend([f"{word} {letter}"] * abs(numbers[k] - here[k]))
        here = list(numbers)
        lines.append(f"fly {time}")
    return "\n".join(lines)


PLANS = [random_plan(Random(seed), chance_letters) for seed in range(80) for chance_letters in ("a", "abc", LETTERS)]


class Texts(Raises, unittest.TestCase):
    def test_what_it_tells(self):
        plan = Open("open -1/2 3\nfly 2\nturn a\nfly 1/3\nback f")
        self.assertEqual((plan.text, plan.start, plan.whole, len(plan)), ("open -1/2 3\nfly 2\nturn a\nfly 1/3\nback f", event("-1/2", 3), (7, 3), 2))
        plan = Open(text="open 0 0")
        self.assertEqual((plan.text, plan.start, plan.whole, len(plan)), ("open 0 0", event(0, 0), (0, 1), 0))
        for letter in LETTERS:
            self.assertEqual(len(Open(f"open 0 0\nturn {letter}\nback {letter}\nfly 1")), 1)

    def test_whole_is_changed_by_no_factor(self):
        chance = Random(81)
        for text in PLANS:
            plan = Open(text)
            whole = sum((time for time in times_of(text)[1].values()), Fraction(0))
            self.assertEqual(plan.whole, pair(whole))
            self.assertEqual(len(plan), text.count("fly"))
            self.assertEqual(put_in(plan, random_factors(chance)).whole, plan.whole)

    def test_equal_by_text_alone(self):
        self.assertEqual(Open(THERE), Open(str(THERE)))
        self.assertNotEqual(Open(THERE), Open(FIRST))
        self.assertNotEqual(Open("open 0 0\nfly 2"), Open("open 0 0\nfly 1\nfly 1"))
        self.assertFalse(Open(THERE) != Open(THERE))
        for value in no_fractions() + [THERE, Sky("sky\nship a 0 0 1"), Flight("flight 0 0 1")]:
            self.assertFalse(Open(THERE) == value)
            self.assertTrue(Open(THERE) != value)

    def test_what_is_no_string(self):
        for value in no_fractions() + [Open(THERE), THERE.split("\n"), THERE.encode(), (THERE,)]:
            if not isinstance(value, str):
                self.assert_number(BadOpen, 0, Open, value)

    def test_first_lines(self):
        for line in ["", " ", "open", "open 0", "open 0 0 1", "open 0 0 ", " open 0 0", "open  0 0", "open 0  0", "Open 0 0", "flight 0 0 1", "fly 1",
                     "open 2/4 0", "open 0 2/4", "open 1/1 0", "open 0 3/1", "open 0 -0", "open +1 0", "open 01 0", "open 0 1.5", "open 0 1/0",
                     "open 0 1/-2", "open a b", "open 0 0/2", "open 1/ 0", "open /1 0", "open 1_0 0", "open -1/-2 0", "open -- 0"]:
            self.assert_number(BadOpen, 1, Open, line)
            self.assert_number(BadOpen, 1, Open, line + "\nfly 0")
        for text in ("open -3 5/7", "open 0 0", "open 100/7 -1/9"):
            self.assertEqual(Open(text).text, text)

    def test_later_lines(self):
        bad = ["", " ", "fly", "fly 0", "fly -1", "fly 2/4", "fly 1/1", "fly 1 ", " fly 1", "fly  1", "fly a", "Fly 1", "fly 1 2", "turn", "turn ", "turn g",
               "turn z", "turn A", "turn F", "turn ab", "turn aa", "turn a b", "turn  a", "turn a ", " turn a", "turn 2", "turn 1/2", "turnb", "back", "back ",
               "back g", "back A", "back ef", "back 2", "back  b", "back b ", "Back a", "open 0 0", "flash a", "until left a", "turn abcdef", "turn /", "fly -0"]
        for line in bad:
            self.assert_number(BadOpen, 2, Open, "open 0 0\n" + line)
            self.assert_number(BadOpen, 4, Open, "open 0 0\nfly 1\nturn f\n" + line)
            self.assert_number(BadOpen, 3, Open, "open 0 0\nback e\n" + line + "\nfly 1\nfly 0")
        self.assert_number(BadOpen, 2, Open, "open 0 0\n")
        self.assert_number(BadOpen, 3, Open, "open 0 0\nfly 1\n")
        self.assert_number(BadOpen, 1, Open, "\nopen 0 0")


class Sums(unittest.TestCase):
    def test_by_hand(self):
        for text in PLANS:
            expected = tuple(sorted((numbers, pair(time)) for numbers, time in times_of(text)[1].items()))
            self.assertEqual(sums(Open(text)), expected)

    def test_plain_ones(self):
        a, ab = (1, 0, 0, 0, 0, 0), (1, 1, 0, 0, 0, 0)
        self.assertEqual(sums(Open(THERE)), ((NONE, (5, 1)), (a, (1, 1))))
        self.assertEqual(sums(plan=Open(BOTH)), ((a, (4, 1)), (ab, (2, 1))))
        for text in ("open 0 0", "open 0 0\nturn a", "open 0 0\nturn a\nback b\nback a"):
            self.assertEqual(sums(Open(text)), ())

    def test_ascending(self):
        text = "open 0 0\nturn f\nfly 1\nback f\nback a\nfly 2\nturn a\nturn a\nfly 3\nback a\nback b\nfly 4\nturn b\nturn b\nfly 5\nback b\nfly 6"
        numbers = [row[0] for row in sums(Open(text))]
        self.assertEqual(numbers, [(-1, 0, 0, 0, 0, 0), (0, -1, 0, 0, 0, 0), NONE, (0, 0, 0, 0, 0, 1), (0, 1, 0, 0, 0, 0), (1, 0, 0, 0, 0, 0)])
        self.assertEqual([row[1] for row in sums(Open(text))], [(2, 1), (4, 1), (6, 1), (1, 1), (5, 1), (3, 1)])

    def test_turns_that_undo_one_another(self):
        for turns in ("turn a\nback a", "back c\nturn c", "turn a\nturn b\nback a\nback b", "back d\nback d\nturn d\nturn d"):
            self.assertEqual(sums(Open(f"open 0 0\nfly 1\n{turns}\nfly 1/2")), ((NONE, (3, 2)),))

    def test_one_product_in_several_places(self):
        text = "open 9 9\nturn a\nturn b\nfly 1\nback a\nfly 1/3\nturn a\nfly 1\nback b\nback a\nturn b\nturn a\nfly 1/2"
        self.assertEqual(sums(Open(text)), (((0, 1, 0, 0, 0, 0), (1, 3)), ((1, 1, 0, 0, 0, 0), (5, 2))))

    def test_letters_that_stand_in_no_flown_pace(self):
        self.assertEqual(sums(Open("open 0 0\nturn e\nturn f\nback e\nfly 1\nturn c")), (((0, 0, 0, 0, 0, 1), (1, 1)),))

    def test_powers(self):
        self.assertEqual(sums(Open("open 0 0" + "\nturn d" * 300 + "\nfly 1" + "\nback d" * 200 + "\nback d" * 200 + "\nfly 2")),
                         (((0, 0, 0, -100, 0, 0), (2, 1)), ((0, 0, 0, 300, 0, 0), (1, 1))))


class PutIn(Raises, unittest.TestCase):
    def test_line_by_line(self):
        chance = Random(82)
        for text in PLANS:
            factors = random_factors(chance)
            flight = put_in(Open(text), factors)
            lines = ["flight " + text.split("\n")[0][5:] + " 1"]
            for line in text.split("\n")[1:]:
                word, told = line.split(" ")
                if word == "turn":
                    line = f"turn {worth(factors[LETTERS.index(told)])}"
                elif word == "back":
                    line = f"turn {1 / worth(factors[LETTERS.index(told)])}"
                lines.append(line)
            self.assertIs(type(flight), Flight)
            self.assertEqual(flight.text, "\n".join(lines))
            self.assertEqual(flight.goal, end_by_hand(text, factors))

    def test_plain_ones(self):
        factors = ((2, 1), (1, 2), (3, 1), (5, 7), (1, 1), (9, 1))
        rows = put_in(Open("open 1/2 -3\nturn a\nback b\nturn c\nback d\nfly 1\nback e\nturn f"), factors).text.split("\n")
        self.assertEqual(rows, ["flight 1/2 -3 1", "turn 2", "turn 2", "turn 3", "turn 7/5", "fly 1", "turn 1", "turn 9"])
        self.assertEqual(put_in(factors=ONES, plan=Open("open 4 5")).text, "flight 4 5 1")

    def test_what_are_no_factors(self):
        plan = Open(THERE)
        two = (2, 1)
        values = [ONES[1:], ONES + ((1, 1),), (), (two,) * 12, list(ONES), [list(two)] * 6, "abcdef", {k: two for k in range(6)}, (1,) * 6, (None,) * 6]
        for value in no_fractions() + values:
            self.assert_told(BadFactors, value, put_in, plan, value)
        for part in no_paces():
            for k in (0, 1, 5):
                value = ONES[:k] + (part,) + ONES[k + 1:]
                self.assert_told(BadFactors, value, put_in, plan, value)
                self.assertIs(shows_same_end(plan, Open(BOTH), ("apart", value)), False)


class SameEnd(unittest.TestCase):
    def check(self, one, other):
        """What same_end tells of these texts, checked by Fractions; its word."""
        told = same_end(Open(one), Open(other))
        self.assertIs(shows_same_end(Open(one), Open(other), told), True)
        if always_same(one, other):
            self.assertEqual(told, ("same",))
        else:
            word, factors = told
            self.assertEqual((word, len(factors)), ("apart", 6))
            self.assertNotEqual(end_by_hand(one, factors), end_by_hand(other, factors))
            self.assertNotEqual(put_in(Open(one), factors).goal, put_in(Open(other), factors).goal)
        return told[0]

    def test_other_sequences_parted_and_begun_elsewhere(self):
        chance = Random(83)
        for text in PLANS:
            other = otherwise(text, chance)
            self.assertEqual(self.check(text, other), "same")
            self.assertEqual(self.check(other, text), "same")
            for factors in (ONES, random_factors(chance), random_factors(chance)):
                self.assertEqual(put_in(Open(text), factors).goal, put_in(Open(other), factors).goal)
                self.assertIs(shows_same_end(Open(text), Open(other), ("apart", factors)), False)

    def test_random_pairs(self):
        for one, other in zip(PLANS, PLANS[7:]):
            self.check(one, other)

    def test_ends_that_are_alike_for_some_factors(self):
        # (a - 1) (a - 2) (a - 3) is a a a - 6 a a + 11 a - 6; with shifts for v, or without.
        one = "open 0 0\nturn a\nfly 11\nturn a\nturn a\nfly 1"
        other = "open 6 0\nturn a\nturn a\nfly 6"
        self.assertEqual(self.check(one, other), "apart")
        for a in (1, 2, 3):
            factors = ((a, 1),) + ONES[1:]
            ends = [put_in(Open(text), factors).goal for text in (one, other)]
            self.assertEqual(ends[0][0], ends[1][0])
        value = same_end(Open(one), Open(other))[1]
        self.assertNotEqual(put_in(Open(one), value).goal[0], put_in(Open(other), value).goal[0])

    def test_unlike_ones_may_end_alike_for_all_factors_1(self):
        for one, other in ((THERE, BOTH), (THERE, "open 0 0\nfly 6"), ("open 0 0\nturn a\nfly 1", "open 1 1"),
                           ("open 0 0\nturn a\nfly 1", "open 0 0\nback a\nfly 1"), ("open 0 0\nturn a\nfly 1", "open 0 0\nturn b\nfly 1")):
            self.assertEqual(self.check(one, other), "apart")
            self.assertIs(shows_same_end(Open(one), Open(other), ("apart", ONES)), False)
            self.assertEqual(end_by_hand(one, ONES), end_by_hand(other, ONES))

    def test_beginnings_and_own_times(self):
        self.assertEqual(self.check("open 0 0\nfly 2", "open 1 1\nfly 1"), "same")
        self.assertEqual(self.check("open 0 0\nfly 2\nturn a", "open 2 2"), "same")
        for one, other in (("open 0 0\nfly 2", "open 1 0\nfly 1"), ("open 0 0", "open 0 1"), ("open 0 0", "open 1 0"), ("open 0 0\nfly 1", "open 0 0"),
                           ("open 1 0\nturn a\nfly 1", "open 0 0\nturn a\nfly 1"), ("open 0 0\nturn a\nfly 1", "open 0 0\nturn a\nfly 2")):
            self.assertEqual(self.check(one, other), "apart")
        self.assertNotEqual(Open("open 0 0\nfly 2").whole, Open("open 1 1\nfly 1").whole)

    def test_factors_for_which_u_is_alike_and_those_for_which_v_is(self):
        # u is alike for a = 1 and 2, v for a = 2; and the other way about.
        one, other = "open 2 5/4\nturn a\nturn a\nfly 1", "open 0 0\nturn a\nfly 3"
        self.assertEqual(end_by_hand(one, ((2, 1),) + ONES[1:]), end_by_hand(other, ((2, 1),) + ONES[1:]))
        self.assertEqual(self.check(one, other), "apart")
        mirror = [text.replace("turn", "back") for text in ("open 5/4 2\nturn a\nturn a\nfly 1", other)]
        self.assertEqual(end_by_hand(mirror[0], ((2, 1),) + ONES[1:]), end_by_hand(mirror[1], ((2, 1),) + ONES[1:]))
        self.assertEqual(self.check(*mirror), "apart")

    def test_only_one_coordinate_apart(self):
        # u of the one is that of the other, for all factors; v is not.
        self.assertEqual(self.check("open 0 0\nturn c\nfly 1", "open 0 1/7\nturn c\nfly 1"), "apart")
        self.assertEqual(self.check("open 1/7 0\nturn c\nfly 1", "open 0 0\nturn c\nfly 1"), "apart")

    def test_letters_that_must_be_unlike(self):
        # a and b apart, or a b and c, or a a and b b.
        for one, other in (("turn a\nfly 1", "turn b\nfly 1"), ("turn a\nturn b\nfly 1", "turn c\nfly 1"), ("turn a\nturn a\nfly 1", "turn f\nturn f\nfly 1"),
                           ("turn a\nfly 1\nturn b\nfly 1", "turn b\nfly 1\nturn a\nfly 1")):
            self.check("open 0 0\n" + one, "open 0 0\n" + other)
        self.assertEqual(self.check("open 0 0\nturn a\nturn b\nfly 1", "open 0 0\nturn b\nturn a\nfly 1"), "same")

    def test_products_that_vanish_at_many_factors(self):
        # (a - 1) .. (a - 5) (b - 1) (b - 2), its parts above and below 0 flown by one and by the other.
        rows = {(0, 0): 1}
        for k, root in [(0, 1), (0, 2), (0, 3), (0, 4), (0, 5), (1, 1), (1, 2)]:
            more = {}
            for numbers, times in rows.items():
                up = (numbers[0] + 1, numbers[1]) if k == 0 else (numbers[0], numbers[1] + 1)
                more[up] = more.get(up, 0) + times
                more[numbers] = more.get(numbers, 0) - root * times
            rows = more
        texts = ["open 0 0", "open 0 0"]
        for (a, b), times in rows.items():
            at = 0 if times > 0 else 1
            texts[at] += "\nturn a" * a + "\nturn b" * b + f"\nfly {abs(times)}" + "\nback a" * a + "\nback b" * b
        self.assertEqual(self.check(*texts), "apart")
        told = same_end(Open(texts[0]), Open(texts[1]))[1]
        self.assertLess(max(max(factor) for factor in told), 100)

    def test_long_ones(self):
        one = "open 0 0" + "\nturn a" * 250 + "\nback b" * 250 + "\nfly 1"
        other = "open 0 0" + "\nturn a" * 249 + "\nback b" * 250 + "\nfly 1"
        self.assertEqual(self.check(one, other), "apart")
        self.assertEqual(self.check(one, one), "same")

    def test_by_name(self):
        there, both = Open(THERE), Open(BOTH)
        told = same_end(other=both, one=there)
        self.assertEqual(told, same_end(Open(THERE), Open(BOTH)))
        self.assertIs(shows_same_end(value=told, other=both, one=there), True)
        self.assertEqual((there, both), (Open(THERE), Open(BOTH)))


class Shown(unittest.TestCase):
    def test_factors_that_show_unlike_ends(self):
        chance, found = Random(84), {True: 0, False: 0}
        some = PLANS[::5]
        for one, other in list(zip(PLANS, PLANS[3:])) + [(text, otherwise(text, chance)) for text in some]:
            for _ in range(3):
                factors = random_factors(chance)
                right = end_by_hand(one, factors) != end_by_hand(other, factors)
                self.assertIs(shows_same_end(Open(one), Open(other), ("apart", factors)), right)
                found[right] += 1
            self.assertIs(shows_same_end(Open(one), Open(other), ("same",)), always_same(one, other))
        self.assertGreater(min(found.values()), 5)

    def test_values_of_any_kind(self):
        there, first, both = Open(THERE), Open(FIRST), Open(BOTH)
        some = ("apart", ((2, 1), (1, 2)) + ONES[2:])
        self.assertIs(shows_same_end(there, both, some), True)
        for value in no_fractions() + [("same", ()), ["same"], ("Same",), "same", ("same",) * 2, ("apart",), ("apart", ONES), ("apart", ()), ("apart", None),
                                       list(some), some + (1,), some[::-1], ("apart", some), ("apart", list(some[1])), ("Apart", some[1]), ("same", some[1])]:
            for pair_of in ((there, both), (there, first)):
                self.assertIs(shows_same_end(*pair_of, value), False, value)
        self.assertIs(shows_same_end(there, first, ("same",)), True)
        self.assertIs(shows_same_end(there, both, ("same",)), False)
        self.assertIs(shows_same_end(there, first, some), False)

    def test_values_near_right_ones(self):
        one, other = Open("open 0 0\nturn a\nfly 1"), Open("open 0 0\nturn b\nfly 1")
        right = ("apart", ((2, 1), (3, 1)) + ONES[2:])
        self.assertIs(shows_same_end(one, other, right), True)
        for value in near(right):
            if isinstance(value, tuple) and len(value) == 2 and value[0] == "apart" and len(value[1] or ()) == 6:
                continue
            self.assertIs(shows_same_end(one, other, value), False, value)
        for value in ((True, 1), (2, True), [2, 1], (4, 2), (0, 1), (-2, 1), 2, None):
            self.assertIs(shows_same_end(one, other, ("apart", (value,) + right[1][1:])), False)
            self.assertIs(shows_same_end(one, other, ("apart", right[1][:5] + (value,))), False)

    def test_great_factors(self):
        one, other = Open("open 0 0\nturn a\nfly 1"), Open("open 0 0\nturn b\nfly 1")
        great = 10 ** 12 - 11
        self.assertIs(shows_same_end(one, other, ("apart", ((great, 3), (great, 2)) + ONES[2:])), True)
        self.assertIs(shows_same_end(one, other, ("apart", ((great, 3), (great, 3)) + ONES[2:])), False)


if __name__ == "__main__":
    unittest.main()
