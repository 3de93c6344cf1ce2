import unittest
from random import Random

from crewclocks.changes import edge, edited, kept, run_again, unlike_rows
from crewclocks.errors import BadEdit, BadRun, OtherNames
from crewclocks.events import sequence
from crewclocks.flights import Flight
from crewclocks.runs import run
from crewclocks.skies import Sky, mirrored_sky, renamed, seen_sky, shifted_sky
from helpers import Raises, event, near, no_fractions, no_names, worth
from oracle import expected_run, movers_of, random_skies, random_talks

TWO = "sky\nship a 0 0 1\nfly 1\nflash x\nfly 4\nship b 1 -1 1\nuntil left x\nflash y\nfly 1"
SKIES = random_skies(11, 50) + random_talks(12, 50)
LINES = ["fly 1", "fly 5/2", "turn 2", "turn 1", "turn 1/3", "flash new", "until left px", "until right qy", "until left pw",
         "until right none"]


def random_edit(chance, sky):
    name, _, _, lines = chance.choice(sky.ships)
    kinds = (["set", "drop"] if lines else []) + (["add"] if len(lines) < 20 else [])
    kind = chance.choice(kinds)
    number = chance.randint(0, len(lines) if kind == "add" else len(lines) - 1)
    return (kind, name, number) if kind == "drop" else (kind, name, number, chance.choice(LINES))


def random_edits(seed, skies, many):
    chance = Random(seed)
    return [(Sky(text), random_edit(chance, Sky(text))) for text in skies for _ in range(many)]


def by_hand(sky, edit):
    """The text behind an edit, line by line."""
    rows = ["sky"]
    for (name, _, _, lines), head in zip(sky.ships, [line for line in sky.text.split("\n") if line.startswith("ship ")]):
        script = list(lines)
        if name == edit[1]:
            if edit[0] == "set":
                script[edit[2]] = edit[3]
            elif edit[0] == "add":
                script.insert(edit[2], edit[3])
            else:
                script.pop(edit[2])
        rows.extend([head] + script)
    return "\n".join(rows)


class Edited(Raises, unittest.TestCase):
    def test_random_edits(self):
        kinds = set()
        for sky, edit in random_edits(1, SKIES, 3):
            text = sky.text
            changed = edited(sky, edit)
            self.assertIs(type(changed), Sky)
            self.assertEqual(changed.text, by_hand(sky, edit))
            self.assertEqual((changed.names, sky.text), (sky.names, text))
            kinds.add(edit[0])
        self.assertEqual(kinds, {"set", "add", "drop"})

    def test_at_the_first_the_last_and_behind_the_last_line(self):
        sky = Sky("sky\nship a 0 0 1\nfly 1\nturn 2\nship b 0 0 1")
        head, tail = "sky\nship a 0 0 1\n", "\nship b 0 0 1"
        for edit, lines in ((("set", "a", 0, "flash p"), "flash p\nturn 2"), (("set", "a", 1, "flash p"), "fly 1\nflash p"),
                            (("add", "a", 0, "fly 3"), "fly 3\nfly 1\nturn 2"), (("add", "a", 1, "fly 3"), "fly 1\nfly 3\nturn 2"),
                            (("add", "a", 2, "fly 3"), "fly 1\nturn 2\nfly 3"), (("drop", "a", 0), "turn 2"),
                            (("drop", "a", 1), "fly 1"), (("set", "a", 0, "fly 1"), "fly 1\nturn 2"),
                            (("set", "a", 0, "until left x"), "until left x\nturn 2")):
            self.assertEqual(edited(sky, edit).text, head + lines + tail)
        self.assertEqual(edited(edit=("add", "b", 0, "fly 1"), sky=sky).text, sky.text + "\nfly 1")
        self.assertEqual(edited(edited(sky, ("drop", "a", 0)), ("drop", "a", 0)).ships[0][3], ())

    def refuse(self, sky, value):
        for call in (edited, edge, kept):
            self.assert_told(BadEdit, value, call, sky, value)
        self.assert_told(BadEdit, value, run_again, sky, value, None)

    def test_what_is_no_edit(self):
        sky = Sky(TWO)
        values = no_fractions() + ["set", ("set",), ("set", "a"), ("set", "a", 0), ("drop", "a"), ("drop",), ("add", "a", 0),
                                   ("drop", "a", 0, "fly 1"), ("drop", "a", 0, None), ("set", "a", 0, "fly 1", 1), (),
                                   ("Set", "a", 0, "fly 1"), ("put", "a", 0, "fly 1"), ("", "a", 0, "fly 1"),
                                   (None, "a", 0, "fly 1"), ("drop ", "a", 0), (("set",), "a", 0, "fly 1"),
                                   ["set", "a", 0, "fly 1"], ["drop", "a", 0], {"set": 1}, ("a", "set", 0, "fly 1"),
                                   ("set", 0, "a", "fly 1"), ("drop", 0, "a"), (True, "a", 0), (0, "a", 0)]
        for value in values:
            self.refuse(sky, value)

    def test_no_ship(self):
        for name in no_names() + ["c", "A", "ab", "x", 0, 1]:
            self.refuse(Sky(TWO), ("set", name, 0, "fly 1"))
            self.refuse(Sky(TWO), ("add", name, 0, "fly 1"))
            self.refuse(Sky(TWO), ("drop", name, 0))

    def test_numbers(self):
        for number in [-1, -3, 4, 99, 10 ** 11, True, False, None, "0", "1", (0, 1), [0], (0,), {}]:
            self.refuse(Sky(TWO), ("set", "a", number, "fly 1"))
            self.refuse(Sky(TWO), ("add", "a", number, "fly 1"))
            self.refuse(Sky(TWO), ("drop", "a", number))
        self.refuse(Sky(TWO), ("set", "a", 3, "fly 1"))
        self.refuse(Sky(TWO), ("drop", "a", 3))
        empty = Sky("sky\nship a 0 0 1")
        self.refuse(empty, ("set", "a", 0, "fly 1"))
        self.refuse(empty, ("drop", "a", 0))
        self.refuse(empty, ("add", "a", 1, "fly 1"))

    def test_lines_of_no_form(self):
        for line in ["", " ", "fly", "fly 0", "fly -1", "fly 2/4", "fly 1 ", " fly 1", "fly  1", "turn 0", "turn", "flash",
                     "flash A", "flash abcdefg", "until", "until left", "until up x", "until left X", "ship c 0 0 1", "sky",
                     "fly 1\n", "\nfly 1", "fly 1\nfly 1", "flash p\n", "until left p\n", "fly 1\nship c 0 0 1", "fly 1.0",
                     None, True, 1, (1, 1), ("fly 1",), ["fly 1"], ["fly", "1"], {"fly": 1}, b"fly 1", Flight("flight 0 0 1")]:
            self.refuse(Sky(TWO), ("set", "a", 0, line))
            self.refuse(Sky(TWO), ("add", "b", 0, line))
            self.refuse(Sky(TWO), ("add", "b", 3, line))

    def test_a_word_that_stands(self):
        sky = Sky(TWO)
        for edit in (("set", "a", 0, "flash x"), ("set", "a", 0, "flash y"), ("add", "b", 0, "flash x"),
                     ("add", "b", 3, "flash y"), ("set", "b", 1, "flash x")):
            self.refuse(sky, edit)
        self.assertEqual(edited(sky, ("set", "a", 1, "flash x")), sky)
        self.assertEqual(edited(sky, ("set", "a", 1, "flash z")).text, TWO.replace("flash x", "flash z"))

    def test_a_21st_line(self):
        sky = Sky("sky\nship a 0 0 1" + "\nfly 1" * 20 + "\nship b 0 0 1" + "\nfly 1" * 19)
        for number in (0, 10, 20):
            self.refuse(sky, ("add", "a", number, "fly 1"))
        self.assertEqual(len(edited(sky, ("add", "b", 19, "turn 2")).ships[1][3]), 20)
        self.assertEqual(len(edited(sky, ("set", "a", 19, "turn 2")).ships[0][3]), 20)
        self.assertEqual(len(edited(sky, ("drop", "a", 19)).ships[0][3]), 19)


class Edge(unittest.TestCase):
    def test_random_edits(self):
        nowhere = 0
        for sky, edit in random_edits(2, SKIES, 3):
            movers, _ = movers_of(sky.text)
            marks = [mover.marks for mover in movers if mover.name == edit[1]][0]
            expected = event(*marks[edit[2]]) if edit[2] < len(marks) else None
            self.assertEqual(edge(sky, edit), expected)
            nowhere += expected is None
        self.assertGreater(nowhere, 20)

    def test_ahead_of_and_behind_a_wait_that_never_ends(self):
        sky = Sky("sky\nship a 1 2 1\nfly 3\nturn 2\nuntil left p\nfly 1")
        told = [edge(sky, ("add", "a", number, "fly 1")) for number in range(5)]
        self.assertEqual(told, [event(1, 2), event(4, 5), event(4, 5), None, None])
        self.assertEqual([edge(sky, ("drop", "a", 2)), edge(edit=("drop", "a", 3), sky=sky)], [event(4, 5), None])

    def test_behind_a_wait_that_ends(self):
        self.assertEqual(edge(Sky(TWO), ("add", "b", 1, "fly 1")), event(3, 1))
        self.assertEqual(edge(Sky(TWO), ("add", "b", 3, "fly 1")), event(4, 2))


class Kept(unittest.TestCase):
    def test_rows_that_are_kept_are_in_both_logs(self):
        less, all_kept = 0, 0
        for sky, edit in random_edits(3, SKIES, 4):
            before, behind = run(sky), run(edited(sky, edit))
            told = kept(sky, edit)
            self.assertEqual([name for name, _ in told], list(sky.names))
            at = edge(sky, edit)
            unlike = dict(unlike_rows(sky, edited(sky, edit)))
            for (name, many), here, there in zip(told, before, behind):
                self.assertEqual(here[3][:many], there[3][:many])
                self.assertGreaterEqual(unlike.get(name, many), many)
                if at is None:
                    self.assertEqual(many, len(here[3]))
                less += many < len(here[3])
                all_kept += many == len(here[3])
        self.assertGreater(less, 50)
        self.assertGreater(all_kept, 50)

    def test_rows_at_the_edge_and_behind_it_are_not(self):
        for sky, edit in random_edits(4, SKIES, 3):
            at = edge(sky, edit)
            movers, _ = movers_of(sky.text)
            for (name, many), mover, (_, _, _, rows) in zip(kept(sky, edit), movers, run(sky)):
                for number, row in enumerate(rows):
                    place = event(*mover.at(worth(row[0])))
                    stays = at is None or sequence(at, place)[0] in ("behind", "either")
                    self.assertIs(stays, number < many)

    def test_ships_fly_the_same_until_the_edge(self):
        for sky, edit in random_edits(5, SKIES, 2):
            at = edge(sky, edit)
            before, behind = movers_of(sky.text)[0], movers_of(edited(sky, edit).text)[0]
            for here, there in zip(before, behind):
                for begun, u, v, pace, _ in here.spans:
                    if at is None or sequence(at, event(u, v))[0] in ("behind", "either"):
                        self.assertEqual(there.at(begun), (u, v))
                        self.assertEqual(there.pace_at(begun), pace)

    def test_by_name(self):
        self.assertEqual(kept(edit=("drop", "b", 1), sky=Sky(TWO)), (("a", 1), ("b", 0)))
        self.assertEqual(kept(Sky(TWO), ("add", "b", 3, "turn 2")), (("a", 2), ("b", 2)))


class UnlikeRows(Raises, unittest.TestCase):
    def test_beside_itself(self):
        for text in SKIES:
            self.assertEqual(unlike_rows(Sky(text), Sky(text)), ())
            self.assertEqual(unlike_rows(one=Sky(text), other=shifted_sky(Sky(text), event(1, -7))), ())
            self.assertEqual(unlike_rows(seen_sky(Sky(text), (3, 2)), Sky(text)), ())

    def test_as_the_logs_are(self):
        some = 0
        for sky, edit in random_edits(6, SKIES, 3) + [(Sky(text), None) for text in SKIES]:
            other = mirrored_sky(sky) if edit is None else edited(sky, edit)
            expected = []
            for here, there in zip(expected_run(sky.text), expected_run(other.text)):
                if here[3] != there[3]:
                    many = 0
                    while here[3][:many + 1] == there[3][:many + 1]:
                        many += 1
                    expected.append((here[0], many))
            self.assertEqual(unlike_rows(sky, other), tuple(expected))
            self.assertEqual(unlike_rows(other, sky), tuple(expected))
            some += bool(expected)
        self.assertGreater(some, 50)

    def test_where_one_log_is_the_front_of_the_other(self):
        one = Sky("sky\nship a 0 0 1\nflash p\nship b 0 0 2\nfly 1")
        other = Sky("sky\nship a 0 0 1\nflash p\nfly 1\nflash q\nship b 0 0 2\nfly 2")
        # a's log goes on by a row, and so does b's, that hears q.
        self.assertEqual(unlike_rows(one, other), (("a", 2), ("b", 1)))
        self.assertEqual(unlike_rows(other, one), (("a", 2), ("b", 1)))

    def test_other_names(self):
        two = Sky(TWO)
        for other in (renamed(two, ("b", "a")), renamed(two, ("a", "c")), Sky("sky\nship a 0 0 1"),
                      Sky(TWO + "\nship c 0 0 1"), Sky("sky\nship b 1 -1 1\nship a 0 0 1")):
            for one, its in ((two, other), (other, two)):
                with self.assertRaises(OtherNames) as caught:
                    unlike_rows(one, its)
                self.assertEqual(caught.exception.value, (one.names, its.names))


class RunAgain(Raises, unittest.TestCase):
    def test_what_run_tells_of_the_edited_sky(self):
        for sky, edit in random_edits(7, SKIES, 3):
            self.assertEqual(run_again(sky, edit, run(sky)), run(edited(sky, edit)))
            self.assertEqual(run_again(told=run(Sky(sky.text)), edit=edit, sky=sky), expected_run(by_hand(sky, edit)))

    def test_edit_behind_edit(self):
        chance = Random(8)
        for text in SKIES[::3]:
            sky, told = Sky(text), run(Sky(text))
            for _ in range(5):
                edit = random_edit(chance, sky)
                try:
                    changed = edited(sky, edit)
                except BadEdit:
                    continue
                told = run_again(sky, edit, told)
                sky = changed
                self.assertEqual(told, run(sky))

    def test_runs_of_other_skies_and_rows_otherwise(self):
        for text in (TWO, "sky\nship a 0 0 1", "sky\nship a 0 0 1\nturn 2\nflash p\nship b 0 0 1\nuntil left p"):
            sky = Sky(text)
            for value in near(run(sky)):
                self.assert_told(BadRun, value, run_again, sky, ("add", "a", 0, "fly 1"), value)
        for other in SKIES[:10]:
            value = run(Sky(other))
            self.assert_told(BadRun, value, run_again, Sky(TWO), ("drop", "a", 0), value)
        value = run(edited(Sky(TWO), ("drop", "a", 0)))
        self.assert_told(BadRun, value, run_again, Sky(TWO), ("drop", "a", 0), value)

    def test_values_of_any_kind(self):
        for value in no_fractions() + [Sky(TWO), TWO, list(run(Sky(TWO))), (1, 1)]:
            self.assert_told(BadRun, value, run_again, Sky(TWO), ("drop", "a", 0), value)
            self.assert_told(BadEdit, value, run_again, Sky(TWO), value, value)


class ThereAndBack(unittest.TestCase):
    def test_a_line_that_is_added_and_dropped(self):
        for text in SKIES:
            sky = Sky(text)
            for name, _, _, lines in sky.ships:
                for number in range(len(lines) + 1):
                    if len(lines) < 20:
                        more = edited(sky, ("add", name, number, "turn 7"))
                        self.assertEqual(edited(more, ("drop", name, number)), sky)

    def test_a_line_that_is_set_and_set_again(self):
        for text in SKIES:
            sky = Sky(text)
            for name, _, _, lines in sky.ships:
                for number, line in enumerate(lines):
                    other = edited(sky, ("set", name, number, "turn 7"))
                    self.assertEqual(edited(other, ("set", name, number, line)), sky)

    def test_two_edits_of_two_ships_in_either_sequence(self):
        many, chance = 0, Random(9)
        for text in SKIES * 3:
            sky = Sky(text)
            one, other = random_edit(chance, sky), random_edit(chance, sky)
            if one[1] == other[1]:
                continue
            try:
                ends = edited(edited(sky, one), other), edited(edited(sky, other), one)
            except BadEdit:
                continue
            self.assertEqual(ends[0], ends[1])
            many += 1
            rows = dict(kept(sky, one)), dict(kept(sky, other))
            for here, there in zip(run(sky), run(ends[0])):
                both = min(rows[0][here[0]], rows[1][here[0]])
                self.assertEqual(here[3][:both], there[3][:both])
        self.assertGreater(many, 30)


if __name__ == "__main__":
    unittest.main()
