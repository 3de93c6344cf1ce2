"""Fractions, (top, bottom) in least terms, and how texts write them."""

from math import gcd

ZERO = (0, 1)
ONE = (1, 1)


def is_plain_integer(value):
    return isinstance(value, int) and not isinstance(value, bool)


def is_fraction(value):
    if not isinstance(value, tuple) or len(value) != 2:
        return False
    top, bottom = value
    if not is_plain_integer(top) or not is_plain_integer(bottom):
        return False
    return bottom >= 1 and gcd(top, bottom) == 1


def is_above_zero(value):
    """Whether value is a fraction above 0, as paces and factors are."""
    return is_fraction(value) and value[0] > 0


def is_time(value):
    return is_fraction(value) and value[0] >= 0


def in_least_terms(top, bottom):
    """The fraction that is top by bottom, an integer above 0."""
    shared = gcd(top, bottom)
    return top // shared, bottom // shared


def added(one, other):
    return in_least_terms(one[0] * other[1] + other[0] * one[1], one[1] * other[1])


def subtracted(one, other):
    """One less other."""
    return in_least_terms(one[0] * other[1] - other[0] * one[1], one[1] * other[1])


def multiplied(one, other):
    return in_least_terms(one[0] * other[0], one[1] * other[1])


def divided(one, other):
    """One by other, which is above 0."""
    return in_least_terms(one[0] * other[1], one[1] * other[0])


def is_less(one, other):
    return one[0] * other[1] < other[0] * one[1]


def written(fraction):
    top, bottom = fraction
    if bottom == 1:
        return str(top)
    return f"{top}/{bottom}"


def is_integer_text(word):
    """Whether word is an integer as Python writes it."""
    digits = word.removeprefix("-")
    if not digits.isascii() or not digits.isdigit():
        return False
    return word == "0" or not digits.startswith("0")


def read_fraction(word):
    """The fraction that is written so; None if none is."""
    top, slash, bottom = word.partition("/")
    if not is_integer_text(top):
        return None
    if slash == "":
        return int(top), 1
    if not is_integer_text(bottom):
        return None
    fraction = (int(top), int(bottom))
    # With the bottom 1 the top alone is written.
    if fraction[1] == 1 or not is_fraction(fraction):
        return None
    return fraction


def read_above_zero(word):
    """The fraction above 0 that is written so; None if none is."""
    fraction = read_fraction(word)
    if fraction is None or fraction[0] <= 0:
        return None
    return fraction


def read_time(word):
    """The time that is written so; None if none is."""
    fraction = read_fraction(word)
    if fraction is None or fraction[0] < 0:
        return None
    return fraction


def inverse(fraction):
    """1 by the fraction, which is above 0."""
    return fraction[1], fraction[0]


def by_worth(rows):
    """The rows, ascending by the fraction that stands first in each; rows of one worth as they stood."""
    if len(rows) < 2:
        return list(rows)
    middle = len(rows) // 2
    first, rest = by_worth(rows[:middle]), by_worth(rows[middle:])
    merged = []
    taken = 0
    for row in rest:
        while taken < len(first) and not is_less(row[0], first[taken][0]):
            merged.append(first[taken])
            taken += 1
        merged.append(row)
    return merged + first[taken:]


def is_same(value, told):
    """Whether any value is what is told, tuples within tuples; Python alone would take True for 1."""
    if isinstance(told, tuple):
        if not isinstance(value, tuple) or len(value) != len(told):
            return False
        return all([is_same(part, other) for part, other in zip(value, told)])
    return isinstance(value, bool) == isinstance(told, bool) and value == told
