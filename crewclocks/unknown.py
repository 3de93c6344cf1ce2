"""Open flights, which turn by factors that nobody tells, and whether two of them always end at one event."""

from crewclocks.errors import BadFactors, BadOpen
from crewclocks.exact import ONE, ZERO, added, inverse, is_above_zero, multiplied, read_above_zero, read_fraction
from crewclocks.exact import subtracted
from crewclocks.flights import flight_of

UNKNOWN = ("a", "b", "c", "d", "e", "f")


class Open:
    """An open flight by its text; `steps` are the (word, time or letter) of its lines behind the first one."""

    def __init__(self, text):
        start, steps = read_plan(text)
        self.text = text
        self.start = start
        self.steps = steps
        self.whole = whole_of(steps)

    def __len__(self):
        return len([step for step in self.steps if step[0] == "fly"])

    def __eq__(self, other):
        return isinstance(other, Open) and self.text == other.text


def read_plan(text):
    """(first event, steps) of an open flight's text."""
    if not isinstance(text, str):
        raise BadOpen(0)
    lines = text.split("\n")
    start = read_start(lines[0])
    if start is None:
        raise BadOpen(1)
    steps = []
    for number, line in enumerate(lines[1:], start=2):
        step = read_step(line)
        if step is None:
            raise BadOpen(number)
        steps.append(step)
    return start, tuple(steps)


def read_start(line):
    """The event of an open flight's first line; None if it has no such form."""
    words = line.split(" ")
    if len(words) != 3 or words[0] != "open":
        return None
    u, v = read_fraction(words[1]), read_fraction(words[2])
    if u is None or v is None:
        return None
    return u, v


def read_step(line):
    """(word, time or letter) of a line behind the first one; None if it has no such form."""
    word, _, rest = line.partition(" ")
    if word in ("turn", "back") and rest in UNKNOWN:
        return word, rest
    time = read_above_zero(rest)
    if word != "fly" or time is None:
        return None
    return word, time


def whole_of(steps):
    whole = ZERO
    for word, worth in steps:
        if word == "fly":
            whole = added(whole, worth)
    return whole


def sums(plan):
    """(numbers, all own time) of each pace with which it flies: how often each letter stands in it."""
    numbers = (0,) * len(UNKNOWN)
    times = {}
    for word, worth in plan.steps:
        if word == "fly":
            times[numbers] = added(times.get(numbers, ZERO), worth)
        else:
            at = UNKNOWN.index(worth)
            more = 1 if word == "turn" else -1
            numbers = numbers[:at] + (numbers[at] + more,) + numbers[at + 1:]
    return tuple(sorted([(row, times[row]) for row in times]))


def are_factors(value):
    if not isinstance(value, tuple) or len(value) != len(UNKNOWN):
        return False
    return all([is_above_zero(factor) for factor in value])


def put_in(plan, factors):
    """The flight that it is with these factors of the letters."""
    if not are_factors(factors):
        raise BadFactors(factors)
    steps = []
    for word, worth in plan.steps:
        if word == "fly":
            steps.append((word, worth))
        else:
            factor = factors[UNKNOWN.index(worth)]
            steps.append(("turn", factor if word == "turn" else inverse(factor)))
    return flight_of(plan.start, ONE, steps)


def same_end(one, other):
    """Whether both end at one event for all factors; if not, factors with which they do not."""
    for plane in (0, 1):
        worths = unlike_worths(one, other, plane)
        if worths:
            return ("apart", factors_apart(worths))
    return ("same",)


def unlike_worths(one, other, plane):
    """By how much the ends of both differ: by numbers of the letters, how many times their product, if not 0."""
    worths = {(0,) * len(UNKNOWN): subtracted(one.start[plane], other.start[plane])}
    # By its own time v grows by 1 / pace, so there each letter stands as often below as it stands above in u.
    way = 1 if plane == 0 else -1
    for plan, sign in ((one, 1), (other, -1)):
        for numbers, (top, bottom) in sums(plan):
            product = tuple([way * number for number in numbers])
            worths[product] = added(worths.get(product, ZERO), (sign * top, bottom))
    return unlike_zero(worths)


def unlike_zero(worths):
    return {product: worths[product] for product in worths if worths[product] != ZERO}


def factors_apart(worths):
    """Factors of the letters with which these products, so many times each, are not 0 together."""
    factors = []
    for _ in UNKNOWN:
        # With one letter alone such a sum is 0 for fewer factors than it has products, so one is found.
        factor = ONE
        rest = first_put_in(worths, factor)
        while not rest:
            factor = added(factor, ONE)
            rest = first_put_in(worths, factor)
        factors.append(factor)
        worths = rest
    return tuple(factors)


def first_put_in(worths, factor):
    """What is left of these worths, by the numbers of the other letters, with this factor for the first letter."""
    rest = {}
    for product in worths:
        more = multiplied(worths[product], raised(factor, product[0]))
        rest[product[1:]] = added(rest.get(product[1:], ZERO), more)
    return unlike_zero(rest)


def raised(factor, number):
    """The power of the factor with this number, which may be below 0."""
    worth = ONE
    for _ in range(abs(number)):
        worth = multiplied(worth, factor)
    return worth if number >= 0 else inverse(worth)


def shows_same_end(one, other, value):
    """Whether any value is right as what same_end tells."""
    if not isinstance(value, tuple) or not value:
        return False
    if value[0] == "same" and len(value) == 1:
        return same_end(one, other) == ("same",)
    if value[0] != "apart" or len(value) != 2 or not are_factors(value[1]):
        return False
    return put_in(one, value[1]).goal != put_in(other, value[1]).goal
