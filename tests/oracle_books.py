"""Books worked out another way: by Python's fractions, and by all pairs of ships at once."""

from fractions import Fraction
from itertools import combinations
from random import Random

from helpers import pair
from oracle import random_sky, random_talk

NUMBERS = ["0", "1", "2", "3", "1/2", "3/2"]


class Told:
    """What the text of a book tells."""

    def __init__(self, text):
        lines = [line.split(" ") for line in text.split("\n")[1:]]
        self.names = [words[1] for words in lines if words[0] == "ship"]
        self.felt = [(words[1], Fraction(words[2]), Fraction(words[3])) for words in lines if words[0] == "felt"]
        self.sayings = [words for words in lines if words[0] in ("heard", "passed")]

    def own(self, name, time):
        """(pace, u, v) at this own time, from (0, 0) with pace 1."""
        pace, u, v, now = Fraction(1), Fraction(0), Fraction(0), Fraction(0)
        for turned, factor in sorted(row[1:] for row in self.felt if row[0] == name):
            if turned <= time:
                u, v, now = u + pace * (turned - now), v + (turned - now) / pace, turned
                pace *= factor
        return pace, u + pace * (time - now), v + (time - now) / pace

    def both(self, words):
        """(name, its time, other, its time) of a saying."""
        return words[1], Fraction(words[2]), words[-3], Fraction(words[-2])

    def ratio(self, words):
        """By what factor the own ship's pace at own time 0 is the other one's."""
        name, time, other, its_time = self.both(words)
        told = Fraction(words[-1]) if words[3] == "right" else 1 / Fraction(words[-1])
        return told * self.own(other, its_time)[0] / self.own(name, time)[0]

    def paces(self, numbers=None):
        """Paces at own time 0, the first ship of each part with 1; None if they do not agree."""
        rows = [words for k, words in enumerate(self.sayings) if numbers is None or k in numbers]
        found = {}
        for first in self.names:
            found.setdefault(first, Fraction(1))
            for _ in self.names:
                for words in rows:
                    name, _, other, _ = self.both(words)
                    if other in found:
                        found.setdefault(name, found[other] * self.ratio(words))
                    elif name in found:
                        found[other] = found[name] / self.ratio(words)
        for words in rows:
            name, _, other, _ = self.both(words)
            if found[name] != found[other] * self.ratio(words):
                return None
        return found

    def parts(self, numbers=None):
        lots = [[name] for name in self.names]
        for k, words in enumerate(self.sayings):
            if numbers is None or k in numbers:
                one = [lot for lot in lots if words[1] in lot][0]
                other = [lot for lot in lots if words[-3] in lot][0]
                if one is not other:
                    lots.remove(other)
                    one.extend(other)
        ordered = [tuple(sorted(lot, key=self.names.index)) for lot in lots]
        return tuple(sorted(ordered, key=lambda lot: self.names.index(lot[0])))

    def place(self, paces, name, time, plane):
        _, u, v = self.own(name, time)
        return u * paces[name] if plane == "u" else v / paces[name]

    def bounds(self, paces, plane, numbers=None, extra=()):
        """All (start, end, worth, whether more): end's coordinate at own time 0 is more than start's by worth."""
        found = list(extra)
        for k, words in enumerate(self.sayings):
            if numbers is None or k in numbers:
                name, time, other, its_time = self.both(words)
                worth = self.place(paces, other, its_time, plane) - self.place(paces, name, time, plane)
                strict = words[0] == "heard" and (words[3] == "left") == (plane == "u")
                found.append((other, name, worth, strict))
                if not strict:
                    found.append((name, other, -worth, False))
        return found

    def sums(self, paces, plane, numbers=None, extra=()):
        """The greatest (worth, whether more) from ship to ship; None if a ship is more than itself."""
        best = {(name, name): (Fraction(0), False) for name in self.names}
        for start, end, worth, strict in self.bounds(paces, plane, numbers, extra):
            best[start, end] = max(best.get((start, end), (worth, strict)), (worth, strict))
        for middle in self.names:
            for start in self.names:
                for end in self.names:
                    if (start, middle) in best and (middle, end) in best:
                        one, other = best[start, middle], best[middle, end]
                        both = one[0] + other[0], one[1] or other[1]
                        best[start, end] = max(best.get((start, end), both), both)
        if any(best[name, name] > (0, False) for name in self.names):
            return None
        return best

    def fits(self, numbers=None):
        """Whether there is a placing of these sayings, of all if none are told."""
        paces = self.paces(numbers)
        return paces is not None and all(self.sums(paces, plane, numbers) is not None for plane in "uv")

    def gap(self, plane, one, other):
        """(least, greatest) as gap tells them, without chains; moments by Fractions."""
        paces = self.paces()
        first = paces[one[0]]
        paces = {name: pace / first for name, pace in paces.items()}
        best = self.sums(paces, plane)
        own = self.place(paces, *other, plane) - self.place(paces, *one, plane)
        least, greatest = best.get((one[0], other[0])), best.get((other[0], one[0]))
        return (least and (pair(least[0] + own), not least[1]),
                greatest and (pair(own - greatest[0]), not greatest[1]))

    def needless(self, number):
        """Whether the book without this saying has no placing, or none that could break the saying."""
        rest = [k for k in range(len(self.sayings)) if k != number]
        if not self.fits(rest):
            return True
        paces, words = self.paces(rest), self.sayings[number]
        name, time, other, its_time = self.both(words)
        lot = [lot for lot in self.parts(rest) if name in lot][0]
        if other not in lot or paces[name] != paces[other] * self.ratio(words):
            return False
        for plane in "uv":
            worth = self.place(paces, other, its_time, plane) - self.place(paces, name, time, plane)
            if words[0] == "heard" and (words[3] == "left") == (plane == "u"):
                breaks = [(name, other, -worth, False)]
            else:
                breaks = [(name, other, -worth, True), (other, name, worth, True)]
            if any(self.sums(paces, plane, rest, [bound]) is not None for bound in breaks):
                return False
        return True

    def least_bars(self):
        found = []
        everything = range(len(self.sayings))
        for many in range(len(self.sayings) + 1):
            for lot in combinations(everything, many):
                if not any(set(part) <= set(lot) for part in found) and not self.fits(lot):
                    found.append(lot)
        return tuple(sorted(found))


def random_book(chance, ships=None, most=8):
    """The text of a book with few unlike numbers; most factors are those that the paces of a sky would tell."""
    names = "abcdef"[:ships or chance.randint(1, 6)]
    lines = ["book"] + [f"ship {name}" for name in names]
    for name in names:
        for time in chance.sample(NUMBERS, chance.choice([0, 0, 0, 1, 2])):
            lines.append(f"felt {name} {time} {chance.choice(['2', '1/2', '3'])}")
    told = Told("\n".join(lines))
    paces = {name: Fraction(chance.choice(["1", "1", "2", "1/2"])) for name in names}
    for _ in range(chance.randint(0, most) if len(names) > 1 else 0):
        name, other = chance.sample(names, 2)
        time, its_time = Fraction(chance.choice(NUMBERS)), Fraction(chance.choice(NUMBERS))
        kind = chance.choice(["left", "right", "passed"])
        factor = paces[other] * told.own(other, its_time)[0] / (paces[name] * told.own(name, time)[0])
        if kind == "right":
            factor = 1 / factor
        if chance.random() < 0.04:
            factor *= 2
        words = [name, str(time)] + ([] if kind == "passed" else [kind]) + [other, str(its_time), str(factor)]
        lines.append(("passed " if kind == "passed" else "heard ") + " ".join(words))
    tail = lines[len(names) + 1:]
    chance.shuffle(tail)
    return "\n".join(lines[:len(names) + 1] + tail)


def random_books(seed, many, **named):
    chance = Random(seed)
    return [random_book(chance, **named) for _ in range(many)]


def true_book(chance):
    """The text of a book of what straight ships hear of one another, all of it so in one placing."""
    names = "abcde"[:chance.randint(2, 5)]
    begin = {name: [Fraction(chance.randint(-4, 4), 2), Fraction(chance.randint(-4, 4), 2),
                    Fraction(chance.choice(["1", "1", "2", "1/2"]))] for name in names}
    rows = []
    for _ in range(chance.randint(2, 14)):
        name, other = chance.sample(names, 2)
        u, v, pace = begin[name]
        its_u, its_v, its_pace = begin[other]
        sent = Fraction(chance.randint(0, 8), 2)
        its_u, its_v = its_u + its_pace * sent, its_v + sent / its_pace
        for side, time in (("left", (its_v - v) * pace), ("right", (its_u - u) / pace)):
            later = u + pace * time > its_u if side == "left" else v + time / pace > its_v
            if time >= 0 and later:
                factor = its_pace / pace if side == "left" else pace / its_pace
                rows.append(f"heard {name} {time} {side} {other} {sent} {factor}")
    return "\n".join(["book"] + [f"ship {name}" for name in names] + rows)


def true_books(seed, many):
    chance = Random(seed)
    return [true_book(chance) for _ in range(many)]


def skies_for_books(seed, many):
    """Texts of skies whose runs have few rows."""
    chance = Random(seed)
    return [random_talk(chance) if chance.random() < 0.4 else random_sky(chance, ships=chance.randint(1, 4), most=4)
            for _ in range(many)]


def strayed(text, chance):
    """The text of a book with a number or a side of one saying told otherwise."""
    lines = text.split("\n")
    at = [k for k, line in enumerate(lines) if line.startswith(("heard", "passed"))]
    if not at:
        return text
    k = chance.choice(at)
    words = lines[k].split(" ")
    place = chance.choice([2, len(words) - 2, len(words) - 1, 3 if words[0] == "heard" else 2])
    if words[place] in ("left", "right"):
        words[place] = {"left": "right", "right": "left"}[words[place]]
    else:
        words[place] = str(Fraction(words[place]) * chance.choice([2, Fraction(1, 2), Fraction(9, 10)]) or Fraction(1))
    lines[k] = " ".join(words)
    return "\n".join(lines)
