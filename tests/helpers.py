"""What several test files share: fractions by another way, and values that are of no use."""

from fractions import Fraction

from crewclocks.errors import BadEvent, CrewError, NotAhead
from crewclocks.flights import Flight


def pair(worth):
    """(top, bottom) of a Fraction, an integer, or a text such as '2/3'."""
    worth = Fraction(worth)
    return worth.numerator, worth.denominator


def event(u, v):
    return pair(u), pair(v)


def worth(fraction):
    return Fraction(*fraction)


def deep(many):
    """A tuple that is nested so deep."""
    value = ()
    for _ in range(many):
        value = (value,)
    return value


class Lone:
    """An object that equals nothing but itself."""


def no_fractions():
    """Values of all kinds, none of them a fraction."""
    return [
        None, True, False, 0, 1, -3, 10 ** 40, "", "1", "1/2", "a b", [], {}, (), deep(29), Lone(),
        Flight("flight 0 0 1"), CrewError(1), CrewError, (1,), (1, 2, 3), (2, 1, 1), [1, 2], [1, 1],
        {1: 2}, {1: 1, 2: 1}, "12", b"12", (2, 4), (3, 3), (0, 2), (0, -1), (-2, 4), (1, 0), (0, 0),
        (1, -1), (1, -2), (-1, -2), (True, 1), (1, True), (False, 1), (2, True), (None, 1), (1, None),
        ("1", 2), (1, "2"), ("1", "2"), ((1, 1), (1, 1)), ((1,), 2), ([1], [2]), (1, [2]), (1.5, 1),
    ]


def no_events():
    """Values of all kinds, none of them an event."""
    nought, one = (0, 1), (1, 1)
    return [value for value in no_fractions() if value != ((1, 1), (1, 1))] + [
        (1, 2), (0, 1), (nought,), (nought, one, one), [nought, one], ([0, 1], one), (nought, [1, 1]),
        (nought, 1), (1, nought), (nought, None), (None, nought), (nought, "1"), ("ab", nought),
        (nought, (2, 4)), ((2, 4), nought), (nought, (1, 0)), ((1, 0), nought), (nought, (1, -1)),
        ((-1, -1), nought), (nought, (True, 1)), ((1, True), nought), (nought, (1, 1, 1)),
        ((1,), nought), ((nought, one), (nought, one)), {nought: one}, {0: nought, 1: one},
        Flight("flight 0 0 1\nfly 1"), BadEvent(1), NotAhead,
    ]


def no_paces():
    """Values of all kinds, none of them a pace or a factor."""
    return no_fractions() + [(0, 1), (-1, 1), (-1, 2), (-5, 3)]


def no_times():
    """Values of all kinds, none of them a time."""
    return no_fractions() + [(-1, 1), (-1, 2), (-5, 3)]


class Raises:
    """For test cases: that a call raises just this error, with this very value."""

    def assert_told(self, kind, value, call, *args, **named):
        with self.assertRaises(kind) as caught:
            call(*args, **named)
        self.assertIs(type(caught.exception), kind)
        self.assertIs(caught.exception.value, value)

    def assert_number(self, kind, number, call, *args):
        with self.assertRaises(kind) as caught:
            call(*args)
        self.assertIs(type(caught.exception), kind)
        self.assertIs(type(caught.exception.value), int)
        self.assertEqual(caught.exception.value, number)


def no_names():
    """Values of all kinds, none of them a ship's name or a flash's word."""
    return [value for value in no_fractions() if not isinstance(value, str)] + [
        "", "1", "1/2", "a b", "abcdefg", "A", "aB", "a1", "a_b", "a-b", "a.b", " a", "a ", "a\n", "\n", "a\nb", "Z",
        ("a",), ["a"], {"a": 1}, b"a", "12", "e\u0301", "\u00e9", "\u03b1",
    ]


def strict_parts(value):
    """All parts, however deep, of tuples within tuples."""
    if not isinstance(value, tuple):
        return [value]
    return [value] + [part for inner in value for part in strict_parts(inner)]


def near(value):
    """Values that differ from these tuples within tuples in one place, also by a list or by True in the place of 1."""
    if isinstance(value, tuple):
        found = [list(value), value + (None,), value[:-1] if value else None, (value,), None]
        for k, part in enumerate(value):
            found.extend([value[:k] + (other,) + value[k + 1:] for other in near(part)])
        return found
    if isinstance(value, bool):
        return [int(value), not value, None]
    if isinstance(value, int):
        return ([bool(value)] if value in (0, 1) else []) + [value + 1, value - 1, str(value), None]
    if isinstance(value, str):
        return [value + "x", value[:-1] + "z" if value[-1:] != "z" else "", None, (value,), value.upper() + "!"]
    return [0, False, (), ""]
