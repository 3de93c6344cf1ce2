import unittest
from fractions import Fraction
from functools import lru_cache
from random import Random

from crewclocks.alike import joint, level, same_logs, shows_same_logs
from crewclocks.changes import edited, unlike_rows
from crewclocks.errors import BadEdit, BadPlane, OtherNames
from crewclocks.runs import run
from crewclocks.skies import Sky, mirrored_sky, renamed, seen_sky, shifted_sky
from helpers import Raises, event, near, no_fractions, pair
from oracle import expected_run, random_skies, random_talks
from test_changes import random_edits

FAR = "sky\nship a 0 0 1\nfly 1\nflash x\nship b 1 -1 1\nuntil left x"
SLID = FAR.replace("ship b 1 -1", "ship b 5/2 -1")
SKIES = random_skies(61, 60) + random_skies(62, 40, ships=5, most=3) + random_talks(63, 40)
PACES = ["1", "2", "1/2", "3/2"]


def tied(log, planes):
    """The names of the ships to which these rows tie, by what has kept one of these planes."""
    names = []
    for row in log:
        if row[1] == "heard" and ("v" if row[2] == "left" else "u") in planes:
            names.append(row[3])
        elif row[1] == "passed":
            names.append(row[2])
    return names


def lots_by_hand(text, planes):
    """Lots of ships, each grown from its first one by all that is tied to it, until nothing more comes."""
    ties = {name: set(tied(log, planes)) for name, _, _, log in expected_run(text)}
    lots, names = [], list(ties)
    for name in names:
        if any(name in lot for lot in lots):
            continue
        lot = {name}
        while True:
            more = {other for other in names for here in lot if other in ties[here] or here in ties[other]} - lot
            if not more:
                break
            lot |= more
        lots.append(tuple(sorted(lot, key=names.index)))
    return tuple(lots)


def moved(sky, row_of):
    """The text of the sky with each ship's beginning led as row_of(name) tells: pace, u, v, Fractions."""
    lines = []
    for line in sky.text.split("\n"):
        if line.startswith("ship "):
            _, name, u, v, pace = line.split(" ")
            onlooker, more_u, more_v = row_of(name)
            line = f"ship {name} {Fraction(u) / onlooker + more_u} {Fraction(v) * onlooker + more_v} {Fraction(pace) / onlooker}"
        lines.append(line)
    return "\n".join(lines)


def rows_by_hand(one, other):
    """How the ships' beginnings in one are led to those in other, from the texts."""
    rows = []
    heads = [[line.split(" ") for line in sky.text.split("\n") if line.startswith("ship ")] for sky in (one, other)]
    for (_, _, u, v, pace), (_, _, its_u, its_v, its_pace) in zip(*heads):
        onlooker = Fraction(pace) / Fraction(its_pace)
        rows.append((pair(onlooker), event(Fraction(its_u) - Fraction(u) / onlooker, Fraction(its_v) - Fraction(v) * onlooker)))
    return tuple(rows)


@lru_cache(None)
def logs(text):
    return [row[3] for row in expected_run(text)]


class Joint(unittest.TestCase):
    def test_random_skies(self):
        several, apart = 0, 0
        for text in SKIES:
            found = joint(Sky(text))
            self.assertEqual(found, lots_by_hand(text, "uv"))
            several += any(len(lot) > 2 for lot in found)
            apart += len(found) > 1 and any(len(lot) > 1 for lot in found)
        self.assertGreater(min(several, apart), 10)

    def test_one_ship_alone(self):
        for text in ("sky\nship a 0 0 1", "sky\nship a 0 0 1\nflash x\nuntil left x"):
            self.assertEqual(joint(Sky(text)), (("a",),))
            self.assertEqual([level(Sky(text), plane) for plane in "uv"], [(("a",),)] * 2)

    def test_neither_hearing_nor_passing(self):
        sky = Sky("sky\nship a 0 0 1\nfly 1\nship b 9 -9 1\nfly 1\nflash x")
        self.assertEqual(joint(sky), (("a",), ("b",)))

    def test_by_way_of_others(self):
        # b alone is heard by both, from the right and from the left.
        sky = Sky("sky\nship c 9 -9 1\nfly 90\nship z 50 50 3\nship a -9 9 1\nfly 90\nship b 0 0 1\nfly 1\nflash x")
        self.assertEqual(joint(sky), (("c", "a", "b"), ("z",)))
        self.assertEqual(level(sky, "v"), (("c", "b"), ("z",), ("a",)))
        self.assertEqual(level(sky, "u"), (("c",), ("z",), ("a", "b")))

    def test_two_lots_that_come_together_late(self):
        rows = ["sky", "ship a 0 0 1", "ship b 0 0 2", "ship c 7 7 1", "ship d 7 7 2", "ship e 9 9 1", "ship f 9 9 3"]
        self.assertEqual(joint(Sky("\n".join(rows))), (("a", "b"), ("c", "d"), ("e", "f")))
        # f comes to where a and b begin; what it sends there both d, to the left, and c do not hear: they are no more.
        rows[-1] = "ship f -2 -2 1\nfly 2\nturn 2"
        self.assertEqual(joint(Sky("\n".join(rows))), (("a", "b", "f"), ("c", "d"), ("e",)))
        rows[1] = "ship a 0 0 1\nfly 8"
        self.assertEqual(joint(Sky("\n".join(rows))), (("a", "b", "c", "d", "f"), ("e",)))

    def test_names_as_they_stand(self):
        sky = Sky("sky\nship z 0 0 1\nship m 5 5 1\nship a 0 0 2\nship k 5 5 2")
        self.assertEqual(joint(sky), (("z", "a"), ("m", "k")))
        self.assertEqual(joint(sky=sky), level(plane="u", sky=sky))


class Level(Raises, unittest.TestCase):
    def test_random_skies(self):
        unlike = 0
        for text in SKIES:
            found = [level(Sky(text), plane) for plane in "uv"]
            self.assertEqual(found, [lots_by_hand(text, plane) for plane in "uv"])
            unlike += found[0] != found[1]
        self.assertGreater(unlike, 20)

    def test_from_the_left_and_from_the_right(self):
        sky = Sky("sky\nship a 0 0 1\nfly 9\nship b 1 -1 1\nflash x\nfly 1\nship c 2 -2 1\nfly 9")
        self.assertEqual(level(sky, "u"), (("a", "b"), ("c",)))
        self.assertEqual(level(sky, "v"), (("a",), ("b", "c")))
        mirror = mirrored_sky(sky)
        self.assertEqual([level(mirror, "v"), level(mirror, "u")], [level(sky, "u"), level(sky, "v")])

    def test_who_passes_is_level_in_both(self):
        sky = Sky("sky\nship a 0 0 1\nfly 1\nship b 1 1 2\nship c 5 1 1")
        self.assertEqual([level(sky, plane) for plane in "uv"], [(("a", "b"), ("c",))] * 2)

    def test_level_ships_are_joint(self):
        for text in SKIES:
            whole = joint(Sky(text))
            for plane in "uv":
                for lot in level(Sky(text), plane):
                    self.assertEqual(len([one for one in whole if set(lot) <= set(one)]), 1)

    def test_planes(self):
        for value in no_fractions() + ["w", "U", "uv", "left", ("u",), ["u"], b"u", Sky(FAR)]:
            self.assert_told(BadPlane, value, level, Sky(FAR), value)
            self.assert_told(BadPlane, value, level, plane=value, sky=Sky(FAR))


class SameLogs(Raises, unittest.TestCase):
    def same(self, one, other):
        """That same_logs and shows_same_logs tell same logs, with the rows that the texts tell."""
        expected = ("same", rows_by_hand(one, other))
        self.assertEqual(same_logs(one, other), expected)
        self.assertIs(shows_same_logs(one, other, expected), True)
        return expected[1]

    def unlike(self, one, other):
        """That both tell the first ship of unlike logs, as unlike_rows and the oracle do."""
        expected = ("unlike",) + unlike_rows(one, other)[0]
        mine = [log for log in zip(one.names, logs(one.text), logs(other.text)) if log[1] != log[2]][0]
        many = 0
        while mine[1][:many + 1] == mine[2][:many + 1]:
            many += 1
        self.assertEqual(expected, ("unlike", mine[0], many))
        self.assertEqual(same_logs(one, other), expected)
        self.assertIs(shows_same_logs(one, other, expected), True)
        return expected

    def test_a_sky_and_itself(self):
        for text in SKIES:
            rows = self.same(Sky(text), Sky(text))
            self.assertEqual(set(rows), {((1, 1), event(0, 0))})

    def test_seen_and_shifted(self):
        chance = Random(64)
        for text in SKIES:
            sky, pace = Sky(text), pair(chance.choice(PACES))
            shift = event(Fraction(chance.randint(-9, 9), 2), chance.randint(-9, 9))
            self.assertEqual(set(self.same(sky, seen_sky(sky, pace))), {(pace, event(0, 0))})
            self.assertEqual(set(self.same(sky, shifted_sky(sky, shift))), {((1, 1), shift)})
            self.assertEqual(set(self.same(sky, shifted_sky(seen_sky(sky, pace), shift))), {(pace, shift)})
            back = (pace[1], pace[0])
            self.assertEqual(set(self.same(seen_sky(sky, pace), sky)), {(back, event(0, 0))})

    def test_joint_ships_have_one_pace_and_level_ones_one_shift(self):
        chance, found = Random(65), {"same": 0, "unlike": 0, "slid": 0}
        for text in SKIES * 3:
            sky = Sky(text)
            lots = {name: k for k, lot in enumerate(joint(sky)) for name in lot}
            levels = [{name: k for k, lot in enumerate(level(sky, plane)) for name in lot} for plane in "uv"]
            few = chance.random() < 0.7
            paces = [Fraction(chance.choice(["1"] if few else PACES)) for _ in range(6)]
            slides = [[Fraction(chance.randint(-2, 2), chance.choice([1, 4])) for _ in range(6)] for _ in "uv"]
            other = Sky(moved(sky, lambda name: (paces[lots[name]], slides[0][levels[0][name]], slides[1][levels[1][name]])))
            if logs(sky.text) == logs(other.text):
                rows = self.same(sky, other)
                found["same"] += 1
                found["slid"] += len(set(rows)) > 1 and len(joint(sky)) < len(sky)
            else:
                self.unlike(sky, other)
                found["unlike"] += 1
        self.assertGreater(min(found.values()), 20, found)

    def test_same_logs_mean_one_pace_and_one_shift(self):
        chance, many = Random(66), 0
        for text in SKIES * 4:
            sky = Sky(text)
            moves = {name: (Fraction(1), Fraction(chance.choice([0, 0, 0, 1, 2])), Fraction(chance.choice([0, 0, 0, 1, -2])))
                     for name in sky.names}
            other = Sky(moved(sky, moves.get))
            told = same_logs(sky, other)
            self.assertEqual(told[0] == "same", logs(sky.text) == logs(other.text))
            if told[0] == "same":
                many += len(set(told[1])) > 1
                rows = dict(zip(sky.names, told[1]))
                self.assertEqual([joint(sky)] + [level(sky, plane) for plane in "uv"],
                                 [joint(other)] + [level(other, plane) for plane in "uv"])
                for lot in joint(sky):
                    self.assertEqual(len({rows[name][0] for name in lot}), 1)
                for k, plane in enumerate("uv"):
                    for lot in level(sky, plane):
                        self.assertEqual(len({rows[name][1][k] for name in lot}), 1)
        self.assertGreater(many, 20)

    def test_a_ship_slid_along_u_and_v(self):
        far = Sky(FAR)
        self.assertEqual(self.same(far, Sky(SLID)), (((1, 1), event(0, 0)), ((1, 1), event("3/2", 0))))
        # Slid back to where the flash was sent b passes a; farther back, or along v, it does not hear it so.
        for u, v, name in (("-1", "-1", "a"), ("-3", "-1", "b"), ("1", "-2", "b"), ("1", "0", "b"), ("1", "1", "a"), ("1", "2", "b")):
            other = Sky(FAR.replace("ship b 1 -1", f"ship b {u} {v}"))
            self.assertEqual(self.unlike(far, other), ("unlike", name, 0))
            self.assertEqual(self.unlike(other, far), ("unlike", name, 0))
        self.same(far, Sky(FAR.replace("ship b 1 -1", "ship b -8/9 -1")))

    def test_a_flash_that_comes_anew(self):
        text = "sky\nship a 0 0 1\nfly 9\nship b 0 30 1\nfly 1\nship c 0 0 2\nfly 1\nflash x\nfly 1"
        sky = Sky(text)
        self.assertEqual(joint(sky), (("a", "c"), ("b",)))
        rows = self.same(sky, Sky(text.replace("ship b 0 30", "ship b 40 -30")))
        self.assertEqual(rows[1], ((1, 1), event(40, -60)))
        self.assertEqual(self.unlike(sky, Sky(text.replace("ship b 0 30", "ship b 1 3"))), ("unlike", "b", 0))
        self.assertEqual(self.unlike(sky, Sky(text.replace("ship b 0 30", "ship b 4 4"))), ("unlike", "a", 2))

    def test_lots_seen_by_onlookers_of_their_own(self):
        text = "sky\nship a 0 0 1\nship b 0 0 2\nship c 100 100 3\nfly 1\nflash x\nship d 100 100 1\nfly 2"
        sky = Sky(text)
        self.assertEqual(joint(sky), (("a", "b"), ("c", "d")))
        move = {"a": (2, 1, 1), "b": (2, 1, 1), "c": (Fraction(1, 3), 5, 0), "d": (Fraction(1, 3), 5, 0)}
        rows = self.same(sky, Sky(moved(sky, move.get)))
        self.assertEqual(rows, (((2, 1), event(1, 1)),) * 2 + (((1, 3), event(5, 0)),) * 2)
        move["b"] = (1, 1, 1)
        self.assertEqual(self.unlike(sky, Sky(moved(sky, move.get))), ("unlike", "a", 0))

    def test_edited_skies(self):
        found = {"same": 0, "unlike": 0}
        for sky, edit in random_edits(67, SKIES, 2):
            other = edited(sky, edit)
            if logs(sky.text) == logs(other.text):
                rows = self.same(sky, other)
                self.assertEqual(set(rows), {((1, 1), event(0, 0))})
                found["same"] += 1
            else:
                self.unlike(sky, other)
                found["unlike"] += 1
        self.assertGreater(min(found.values()), 50)

    def test_a_line_set_added_dropped(self):
        far = Sky(FAR)
        self.assertEqual(self.unlike(far, edited(far, ("set", "a", 0, "fly 2"))), ("unlike", "a", 0))
        self.assertEqual(self.unlike(far, edited(far, ("add", "a", 2, "turn 2"))), ("unlike", "a", 1))
        self.assertEqual(self.unlike(far, edited(far, ("add", "a", 0, "turn 1"))), ("unlike", "a", 0))
        self.assertEqual(self.unlike(far, edited(far, ("drop", "a", 1))), ("unlike", "a", 0))
        self.assertEqual(self.unlike(far, edited(far, ("set", "b", 0, "fly 1"))), ("unlike", "b", 0))
        self.same(far, edited(far, ("set", "b", 0, "fly 2")))
        self.same(far, edited(edited(far, ("set", "a", 0, "fly 1/3")), ("add", "a", 0, "fly 2/3")))

    def test_ends_behind_the_last_row(self):
        far = Sky(FAR)
        self.same(far, edited(far, ("add", "b", 1, "fly 7")))
        self.same(far, edited(far, ("add", "a", 2, "until left never")))
        self.same(edited(far, ("add", "b", 1, "until right never")), far)

    def test_mirrored_skies(self):
        self.assertEqual(self.unlike(Sky(FAR), mirrored_sky(Sky(FAR))), ("unlike", "b", 0))
        alone = Sky("sky\nship a 1 2 3\nfly 1\nflash x")
        self.assertEqual(self.same(alone, mirrored_sky(alone)), (((9, 1), event(2 - Fraction(1, 9), 1 - 18)),))

    def test_the_second_and_the_third_ship_alone(self):
        text = "sky\nship a 0 0 1\nflash p\nship b 9 9 1\nflash q\nturn 2\nship c 70 70 1\nturn 3\nturn 5"
        sky = Sky(text)
        self.assertEqual(self.unlike(sky, edited(sky, ("set", "c", 1, "turn 7"))), ("unlike", "c", 1))
        both = edited(edited(sky, ("set", "c", 0, "turn 7")), ("set", "b", 1, "turn 7"))
        self.assertEqual(self.unlike(sky, both), ("unlike", "b", 1))

    def test_other_names(self):
        far = Sky(FAR)
        for other in (renamed(far, ("b", "a")), renamed(far, ("a", "c")), Sky("sky\nship a 0 0 1"), Sky(FAR + "\nship c 0 0 1"),
                      Sky("sky\nship b 1 -1 1\nuntil left x\nship a 0 0 1\nfly 1\nflash x")):
            for one, its in ((far, other), (other, far)):
                for call, rest in ((same_logs, ()), (shows_same_logs, (None,)), (shows_same_logs, (("same", ()),))):
                    with self.assertRaises(OtherNames) as caught:
                        call(one, its, *rest)
                    self.assertIs(type(caught.exception), OtherNames)
                    self.assertEqual(caught.exception.value, (one.names, its.names))

    def test_by_name(self):
        far, slid = Sky(FAR), Sky(SLID)
        told = same_logs(other=slid, one=far)
        self.assertEqual(told, same_logs(Sky(FAR), Sky(SLID)))
        self.assertIs(shows_same_logs(value=told, other=slid, one=far), True)
        self.assertIs(shows_same_logs(value=told, other=far, one=slid), False)
        self.assertEqual((far, slid), (Sky(FAR), Sky(SLID)))


class Shown(unittest.TestCase):
    def test_values_near_right_ones(self):
        far = Sky(FAR)
        for other in (Sky(SLID), seen_sky(far, (2, 1)), edited(far, ("set", "a", 0, "fly 2")), edited(far, ("drop", "a", 1))):
            told = same_logs(far, other)
            self.assertIs(shows_same_logs(far, other, told), True)
            for value in near(told) + no_fractions():
                self.assertIs(shows_same_logs(far, other, value), False, value)

    def test_rows_out_more_or_otherwise(self):
        far, slid = Sky(FAR), Sky(SLID)
        word, rows = same_logs(far, slid)
        for value in (("same", rows[:1]), ("same", rows + rows[:1]), ("same", ()), ("same",), ("same", rows, ()), ("same", rows[::-1]),
                      ("Same", rows), ("unlike", rows), ("unlike", "a", 0), ("unlike", "b", 0), rows, [word, rows], ("same", list(rows)),
                      ("same", (((2, 2), rows[0][1]), rows[1])), ("same", ((True, rows[0][1]), rows[1])),
                      ("same", (((1, True), rows[0][1]), rows[1])), ("same", ((rows[0][0], list(rows[0][1])), rows[1]))):
            self.assertIs(shows_same_logs(far, slid, value), False, value)

    def test_unlike_rows_otherwise(self):
        far = Sky(FAR)
        other = edited(far, ("add", "a", 2, "turn 2"))
        self.assertEqual(same_logs(far, other), ("unlike", "a", 1))
        for value in (("unlike", "a", 0), ("unlike", "a", 2), ("unlike", "b", 1), ("unlike", "a", True), ("unlike", "a", (1, 1)),
                      ("unlike", "a"), ("unlike", "a", 1, 1), ["unlike", "a", 1], ("unlike", "c", 1), ("same", rows_by_hand(far, other))):
            self.assertIs(shows_same_logs(far, other, value), False, value)

    def test_random_pairs(self):
        chance = Random(68)
        for text in SKIES[::4]:
            sky = Sky(text)
            for _ in range(2):
                name, _, _, lines = chance.choice(sky.ships)
                try:
                    other = edited(sky, ("add", name, chance.randint(0, len(lines)), chance.choice(["fly 1", "turn 2"])))
                except BadEdit:
                    continue
                told = same_logs(sky, other)
                for value in (("same", rows_by_hand(sky, other)),) + tuple(("unlike", ship, k) for ship in sky.names for k in range(2)):
                    self.assertIs(shows_same_logs(sky, other, value), value == told)

    def test_runs_are_left_as_they_were(self):
        far = Sky(FAR)
        before = run(far)
        value = ["same", [1, [2]]]
        self.assertIs(shows_same_logs(far, Sky(SLID), value), False)
        self.assertEqual((value, run(far)), (["same", [1, [2]]], before))


if __name__ == "__main__":
    unittest.main()
