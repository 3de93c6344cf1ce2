import unittest
from itertools import product

from crewclocks.errors import BadEvent, BadPace, NotAhead
from crewclocks.events import mirrored, own_square, seen, sequence, shifted, shows_sequence, together
from helpers import Raises, event, no_events, no_fractions, no_paces, pair, worth

WORTHS = ["-7/3", "-2", "-1/2", "0", "1/3", "1", "5/2", "1000003"]
EVENTS = [event(u, v) for u, v in product(["-2", "-1/3", "0", "1/2", "3"], repeat=2)]
PACES = [pair(text) for text in ("1/1000", "1/7", "2/3", "1", "3/2", "2", "29/3", "100000")]
NOUGHT = event(0, 0)
FAR = 999999999999


def seen_sum(at, pace):
    return worth(at[0]) / worth(pace) + worth(pace) * worth(at[1])


def more(pace, one, other):
    """How much later other is than one, for an onlooker with this pace."""
    return seen_sum(other, pace) - seen_sum(one, pace)


class Sequence(Raises, unittest.TestCase):
    def expected_word(self, one, other):
        u_more, v_more = worth(other[0]) - worth(one[0]), worth(other[1]) - worth(one[1])
        if u_more == 0 and v_more == 0:
            return "same"
        if u_more >= 0 and v_more >= 0:
            return "ahead"
        if u_more <= 0 and v_more <= 0:
            return "behind"
        return "either"

    def test_all_pairs_of_a_grid(self):
        words = set()
        for one, other in product(EVENTS, repeat=2):
            told = sequence(one, other)
            words.add(told[0])
            self.assertIs(type(told), tuple)
            self.assertEqual(told[0], self.expected_word(one, other))
            self.assertIs(shows_sequence(one, other, told), True)
            if told[0] == "either":
                self.assertEqual(len(told), 3)
                self.assertGreater(more(told[1], one, other), 0)
                self.assertLess(more(told[2], one, other), 0)
            else:
                self.assertEqual(len(told), 1)
        self.assertEqual(words, {"same", "ahead", "behind", "either"})

    def test_level_in_one_coordinate(self):
        self.assertEqual(sequence(NOUGHT, event(0, "1/9")), ("ahead",))
        self.assertEqual(sequence(NOUGHT, event("1/9", 0)), ("ahead",))
        self.assertEqual(sequence(NOUGHT, event(0, "-1/9")), ("behind",))
        self.assertEqual(sequence(NOUGHT, event("-1/9", 0)), ("behind",))

    def test_ahead_is_earlier_for_all_onlookers_and_else_for_some(self):
        for one, other in product(EVENTS, repeat=2):
            word = sequence(one, other)[0]
            signs = {more(pace, one, other) > 0 for pace in PACES}
            if word == "ahead":
                self.assertEqual(signs, {True})
            if word == "behind":
                self.assertEqual(signs, {False})

    def test_near_one_another_and_far_from_one_another(self):
        near = (FAR - 1, FAR)
        cases = [
            (event(1, 1), (near, (1, 1)), "behind"),
            (event(1, 1), (near, pair("1000000000001/1000000000000")), "either"),
            (event(1, 1), ((FAR, 1), near), "either"),
            (event(1, 1), (near, (FAR, 1)), "either"),
            (event(0, 0), ((1, FAR), (-FAR, 1)), "either"),
            (event(0, 0), ((-1, FAR), (FAR, 1)), "either"),
            (event(0, 0), ((1, FAR), (1, FAR)), "ahead"),
            ((near, near), (near, near), "same"),
            ((near, near), (near, (1, 1)), "ahead"),
        ]
        for one, other, word in cases:
            told = sequence(one, other)
            self.assertEqual(told[0], word)
            self.assertIs(shows_sequence(one, other, told), True)
            if word == "either":
                self.assertGreater(more(told[1], one, other), 0)
                self.assertLess(more(told[2], one, other), 0)

    def test_squares_and_neighbours_of_squares_between(self):
        for grows, falls in product(list(range(1, 27)) + [99, 100, 101], repeat=2):
            for one, other in ((NOUGHT, event(grows, -falls)), (NOUGHT, event(-grows, falls))):
                told = sequence(one, other)
                self.assertGreater(more(told[1], one, other), 0)
                self.assertLess(more(told[2], one, other), 0)
                self.assertIs(shows_sequence(one, other, told), True)

    def test_great_numbers_that_were_told(self):
        great = 7 ** 400
        told = sequence(event(0, 0), ((great, 3), (-1, 2 * great + 1)))
        self.assertEqual(told[0], "either")
        self.assertIs(shows_sequence(event(0, 0), ((great, 3), (-1, 2 * great + 1)), told), True)

    def test_by_name_and_by_position(self):
        one, other = event(0, 0), event(1, 1)
        self.assertEqual(sequence(other=other, one=one), ("ahead",))
        self.assertIs(shows_sequence(value=("ahead",), other=other, one=one), True)

    def test_equal_calls_tell_the_same(self):
        one, other = event(0, 1), event(1, 0)
        self.assertEqual(sequence(one, other), sequence(event(0, 1), event(1, 0)))

    def test_errors(self):
        for value in no_events():
            self.assert_told(BadEvent, value, sequence, value, NOUGHT)
            self.assert_told(BadEvent, value, sequence, NOUGHT, value)
            self.assert_told(BadEvent, value, sequence, value, [1, 2])
            self.assert_told(BadEvent, value, shows_sequence, value, NOUGHT, ("same",))
            self.assert_told(BadEvent, value, shows_sequence, NOUGHT, value, ("same",))
            self.assert_told(BadEvent, value, shows_sequence, value, None, None)
            self.assert_told(BadEvent, value, shows_sequence, NOUGHT, value, None)


class ShowsSequence(unittest.TestCase):
    def setUp(self):
        self.behind_at_once = (event(0, 0), event(4, -1))

    def shows(self, value):
        return shows_sequence(*self.behind_at_once, value)

    def test_words(self):
        one, other = event(0, 0), event(1, 2)
        right = {"same": (one, one), "ahead": (one, other), "behind": (other, one)}
        for name, events in right.items():
            for word in ("same", "ahead", "behind", "either", "", "Same", "sames"):
                self.assertIs(shows_sequence(*events, (word,)), word == name)
            for value in (name, [name], (name, name), (name, None), ((name,),), {name: 1}, {0: name}):
                self.assertIs(shows_sequence(*events, value), False)
            self.assertIs(shows_sequence(*events, ("either", (1, 1), (2, 1))), False)
            self.assertIs(shows_sequence(*events, (name, (1, 1), (2, 1))), False)

    def test_either_is_not_told_by_a_word_alone(self):
        for word in ("same", "ahead", "behind", "either"):
            self.assertIs(self.shows((word,)), False)
            self.assertIs(self.shows(word), False)
            self.assertIs(self.shows((word, (1, 1), (3, 1))), word == "either")

    def test_any_paces_on_the_right_sides(self):
        for first, second in product(["1/999", "1/2", "1", "199/100", "2", "201/100", "3", "5000"], repeat=2):
            expected = worth(pair(first)) < 2 < worth(pair(second))
            self.assertIs(self.shows(("either", pair(first), pair(second))), expected)

    def test_the_contrary_direction(self):
        one, other = event(0, 0), event(-4, 1)
        self.assertIs(shows_sequence(one, other, ("either", (3, 1), (1, 1))), True)
        self.assertIs(shows_sequence(one, other, ("either", (1, 1), (3, 1))), False)
        self.assertIs(shows_sequence(one, other, ("either", (2, 1), (1, 1))), False)
        self.assertIs(shows_sequence(one, other, ("either", (3, 1), (2, 1))), False)

    def test_exchanged_and_equal_paces(self):
        told = sequence(*self.behind_at_once)
        self.assertIs(self.shows(told), True)
        self.assertIs(self.shows((told[0], told[2], told[1])), False)
        self.assertIs(self.shows((told[0], told[1], told[1])), False)
        self.assertIs(self.shows((told[0], told[2], told[2])), False)

    def test_paces_that_are_none(self):
        for value in no_paces():
            self.assertIs(self.shows(("either", value, (3, 1))), False)
            self.assertIs(self.shows(("either", (1, 1), value)), False)
        for first, second in (((2, 2), (3, 1)), ((1, 1), (6, 2)), ([1, 1], (3, 1)), ((1, 1), [3, 1]),
                              ((True, 1), (3, 1)), ((1, True), (3, 1)), ((1, 1), (3, True)),
                              ((0, 1), (3, 1)), ((-1, 1), (3, 1)), ((1, 1), (-3, 1)), ((1, 1), (-3, -1))):
            self.assertIs(self.shows(("either", first, second)), False)

    def test_tuples_of_other_lengths_and_lists(self):
        right = ("either", (1, 1), (3, 1))
        self.assertIs(self.shows(right), True)
        self.assertIs(self.shows(list(right)), False)
        self.assertIs(self.shows(right + ((3, 1),)), False)
        self.assertIs(self.shows(right[:2]), False)
        self.assertIs(self.shows(right[1:]), False)
        self.assertIs(self.shows((right,)), False)
        self.assertIs(self.shows(("either", (1, 1, 1), (3, 1))), False)
        self.assertIs(self.shows(("either", ((1, 1), (3, 1)))), False)

    def test_values_of_any_kind(self):
        cases = [self.behind_at_once, (event(0, 0), event(0, 0)), (event(0, 0), event(1, 0))]
        for events in cases:
            for value in no_fractions() + no_events():
                self.assertIs(shows_sequence(*events, value), False)
                self.assertIs(shows_sequence(*events, (value,)), False)
                self.assertIs(shows_sequence(*events, (value, (1, 1), (3, 1))), False)

    def test_values_are_not_changed(self):
        value = ["either", [1, 1], [3, 1]]
        self.shows(value)
        self.shows(("either", value, value))
        self.assertEqual(value, ["either", [1, 1], [3, 1]])


class Looks(Raises, unittest.TestCase):
    def test_seen(self):
        for u, v, pace in product(WORTHS, WORTHS, PACES):
            at = event(u, v)
            expected = pair(worth(at[0]) / worth(pace)), pair(worth(at[1]) * worth(pace))
            self.assertEqual(seen(at, pace), expected)
        self.assertEqual(seen(event("-1/2", "-4/3"), (3, 2)), event("-1/3", -2))
        self.assertEqual(seen(event=event(1, 1), pace=(2, 1)), event("1/2", 2))

    def test_seen_there_and_back(self):
        for at, pace in product(EVENTS, PACES):
            self.assertEqual(seen(seen(at, pace), (pace[1], pace[0])), at)
            self.assertEqual(seen(at, (1, 1)), at)

    def test_shifted(self):
        for u, v, x, y in product(WORTHS, WORTHS, WORTHS, ["-5/6", "0", "7/2"]):
            at, by = event(u, v), event(x, y)
            expected = pair(worth(at[0]) + worth(by[0])), pair(worth(at[1]) + worth(by[1]))
            self.assertEqual(shifted(at, by), expected)
        self.assertEqual(shifted(event("1/6", "-1/6"), event("1/3", "1/6")), event("1/2", 0))
        self.assertEqual(shifted(by=event(1, 0), event=event(0, 5)), event(1, 5))

    def test_mirrored(self):
        for u, v in product(WORTHS, repeat=2):
            self.assertEqual(mirrored(event(u, v)), event(v, u))
        self.assertEqual(mirrored(event=event(1, "-2/3")), event("-2/3", 1))

    def test_own_square(self):
        told = 0
        for one, other in product(EVENTS, repeat=2):
            u_more, v_more = worth(other[0]) - worth(one[0]), worth(other[1]) - worth(one[1])
            if one != other and u_more >= 0 and v_more >= 0:
                told += 1
                self.assertEqual(own_square(one, other), pair(u_more * v_more))
            else:
                self.assert_told(NotAhead, other, own_square, one, other)
        self.assertGreater(told, 100)
        self.assertEqual(own_square(event("-1/2", "-1/3"), event("1/6", "1/3")), (4, 9))
        self.assertEqual(own_square(NOUGHT, event(0, 3)), (0, 1))
        self.assertEqual(own_square(other=event(2, 3), one=NOUGHT), (6, 1))

    def test_own_square_is_alike_for_all_onlookers(self):
        for one, other in product(EVENTS, repeat=2):
            if sequence(one, other) == ("ahead",):
                for pace in PACES:
                    self.assertEqual(own_square(seen(one, pace), seen(other, pace)), own_square(one, other))

    def test_together(self):
        for pace, one, other in product(PACES, EVENTS, EVENTS):
            self.assertIs(together(pace, one, other), more(pace, one, other) == 0)
        for top, bottom in ((2, 3), (3, 2), (1, 5), (7, 1)):
            one, other = event("-1/2", "1/3"), event("1/2", "1/3")
            other = other[0], pair(worth(other[1]) - worth((bottom * bottom, top * top)))
            self.assertIs(together((top, bottom), one, other), True)
            self.assertIs(together((top + 10 * bottom, bottom), one, other), False)
        self.assertIs(together(other=NOUGHT, one=NOUGHT, pace=(1, 1)), True)

    def test_remark_of_section_4(self):
        here, aside = event(0, 0), event(4, -1)
        for pace, expected in ((1, 3), (3, "-5/3"), (2, 0)):
            u, v = seen(aside, pair(pace))
            self.assertEqual(worth(u) + worth(v), worth(pair(expected)))
        self.assertEqual(seen(here, (2, 1)), here)

    def test_errors(self):
        for value in no_events():
            self.assert_told(BadEvent, value, seen, value, (1, 1))
            self.assert_told(BadEvent, value, shifted, value, NOUGHT)
            self.assert_told(BadEvent, value, shifted, NOUGHT, value)
            self.assert_told(BadEvent, value, mirrored, value)
            self.assert_told(BadEvent, value, own_square, value, NOUGHT)
            self.assert_told(BadEvent, value, own_square, NOUGHT, value)
            self.assert_told(BadEvent, value, together, (1, 1), value, NOUGHT)
            self.assert_told(BadEvent, value, together, (1, 1), NOUGHT, value)
        for value in no_paces():
            self.assert_told(BadPace, value, seen, NOUGHT, value)
            self.assert_told(BadPace, value, together, value, NOUGHT, NOUGHT)

    def test_the_first_wrong_argument_is_told(self):
        first, second, third = [1], ["second"], {"third": 3}
        self.assert_told(BadEvent, first, seen, first, second)
        self.assert_told(BadEvent, first, shifted, first, second)
        self.assert_told(BadEvent, first, own_square, first, second)
        self.assert_told(BadEvent, second, own_square, event(5, 5), second)
        self.assert_told(BadPace, first, together, first, second, third)
        self.assert_told(BadEvent, second, together, (1, 1), second, third)
        self.assert_told(BadEvent, first, seen, pace=second, event=first)
        self.assert_told(BadPace, first, together, other=third, one=second, pace=first)

    def test_arguments_are_not_changed(self):
        value = [[0, 1], [0, 1]]
        for call in (lambda: seen(value, (1, 1)), lambda: shifted(NOUGHT, value), lambda: mirrored(value)):
            self.assertRaises(BadEvent, call)
        self.assertEqual(value, [[0, 1], [0, 1]])


if __name__ == "__main__":
    unittest.main()
