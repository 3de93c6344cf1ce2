"""Steps along sayings, and the rings and chains that they make.

A step is (number of a saying, 1), from its other ship to its own one, or (number, -1), back.
"""

from crewclocks.books import own_place
from crewclocks.exact import ONE, ZERO, added, divided, inverse, is_plain_integer, multiplied, subtracted


class Tie:
    """What a saying tells of its own ship, `name`, and its other one.

    `factor` is that of the step (number, 1); `there` and `here` are the own (u, v) of the other ship and of
    the own one at the times told, if each has the pace 1 at its own time 0; `strict` is the plane in which
    the saying tells more than 0, None for a passing.
    """

    def __init__(self, book, saying):
        word, name, time = saying[:3]
        other, its_time, worth = saying[-3:]
        pace, *here = own_place(book, name, time)
        its_pace, *there = own_place(book, other, its_time)
        from_right = word == "heard" and saying[3] == "right"
        told = worth if from_right else inverse(worth)
        self.name = name
        self.other = other
        self.factor = divided(multiplied(told, its_pace), pace)
        self.here = here
        self.there = there
        self.strict = None
        if word == "heard":
            self.strict = "v" if from_right else "u"


def ties_of(book):
    return [Tie(book, saying) for saying in book.sayings]


def coordinate(own, pace, plane):
    """The own u or v of a ship with this pace at its own time 0, from what they are with the pace 1."""
    return multiplied(own[0], pace) if plane == "u" else divided(own[1], pace)


def begin_of(tie, way):
    return tie.other if way == 1 else tie.name


def end_of(tie, way):
    return tie.name if way == 1 else tie.other


def factor_of(tie, way):
    return tie.factor if way == 1 else inverse(tie.factor)


def may_go(tie, way, plane):
    """Whether a step can go this way in this plane."""
    return way == 1 or tie.strict != plane


def worth_of(tie, way, plane, other_pace, pace):
    """The worth of a step, if the saying's ships have these paces at own time 0."""
    there = coordinate(tie.there, other_pace, plane)
    here = coordinate(tie.here, pace, plane)
    return subtracted(there, here) if way == 1 else subtracted(here, there)


def is_step(ties, value):
    if not isinstance(value, tuple) or len(value) != 2:
        return False
    number, way = value
    if not is_plain_integer(number) or not is_plain_integer(way):
        return False
    return 0 <= number < len(ties) and way in (1, -1)


def is_path(ties, value):
    """Whether any value is a tuple of one step or more, each beginning where the one ahead ended."""
    if not isinstance(value, tuple) or not value or not all([is_step(ties, step) for step in value]):
        return False
    return all([end_of(ties[step[0]], step[1]) == begin_of(ties[later[0]], later[1])
                for step, later in zip(value, value[1:])])


def ships_on(ties, path):
    """The ships with which the steps begin, and the one with which the last one ends."""
    number, way = path[-1]
    return [begin_of(ties[at], there) for at, there in path] + [end_of(ties[number], way)]


def is_ring(ties, value):
    """Whether any value is a ring, barring or not."""
    if not is_path(ties, value):
        return False
    ships = ships_on(ties, value)
    # No saying leads from a ship to itself, so one step alone does not come back.
    if ships[0] != ships[-1] or len(set(ships)) != len(value):
        return False
    return len(set([number for number, _ in value])) == len(value)


def factor_along(ties, path):
    """The product of the factors of the steps."""
    product = ONE
    for number, way in path:
        product = multiplied(product, factor_of(ties[number], way))
    return product


def worth_along(ties, path, plane, pace):
    """The worths of the steps together, if the ship with which they begin has this pace at own time 0."""
    total = ZERO
    for number, way in path:
        tie = ties[number]
        after = multiplied(pace, factor_of(tie, way))
        both = (pace, after) if way == 1 else (after, pace)
        total = added(total, worth_of(tie, way, plane, *both))
        pace = after
    return total


def can_go(ties, path, plane):
    """Whether all steps can go so in this plane."""
    return all([may_go(ties[number], way, plane) for number, way in path])


def is_strict(ties, path, plane):
    """Whether a step tells more than 0 in this plane."""
    return any([ties[number].strict == plane for number, _ in path])


def is_short(ties, ring, plane):
    """Whether a ring of the factor 1 bars in this plane."""
    if not can_go(ties, ring, plane):
        return False
    total = worth_along(ties, ring, plane, ONE)
    return total[0] > 0 or (total == ZERO and is_strict(ties, ring, plane))


def bars(ties, ring):
    """Whether the ring bars in any way."""
    if factor_along(ties, ring) != ONE:
        return True
    return is_short(ties, ring, "u") or is_short(ties, ring, "v")


def all_rings(ties, names):
    """All rings, each beginning with the ship that is named first, both ways about."""
    rings = []
    for number, tie in enumerate(ties):
        for way in (1, -1):
            first = begin_of(tie, way)
            rings.extend(rings_on(ties, ((number, way),), names[names.index(first) + 1:]))
    return rings


def rings_on(ties, path, free):
    """All rings that begin with this path and go on by these ships and back to the first one."""
    ships = ships_on(ties, path)
    rings = []
    if ships[-1] not in free:
        return rings
    left = [name for name in free if name != ships[-1]]
    for number, tie in enumerate(ties):
        for way in (1, -1):
            if begin_of(tie, way) != ships[-1] or number in [earlier for earlier, _ in path]:
                continue
            if end_of(tie, way) == ships[0]:
                rings.append(path + ((number, way),))
            else:
                rings.extend(rings_on(ties, path + ((number, way),), left))
    return rings
