import unittest
from fractions import Fraction
from itertools import permutations
from random import Random

from crewclocks.errors import NoName
from crewclocks.flashes import colour
from crewclocks.flights import Flight, when
from crewclocks.runs import run, why
from crewclocks.skies import Sky, mirrored_sky, renamed, seen_sky, shifted_sky
from helpers import Raises, event, no_names, pair, strict_parts, worth
from oracle import expected_run, movers_of, random_skies, random_talks

TALK = ("sky\nship a 0 0 1\nflash p\nuntil right q\nfly 1\n"
        "ship b 2 -2 1\nuntil left p\nturn 2\nflash q\nfly 3")
SKIES = random_skies(1, 150) + random_skies(2, 40, ships=6, most=20) + random_skies(3, 60, waits=False)
SKIES += random_talks(4, 80)


def told(*lines):
    """What run tells of a sky of these lines, by names."""
    return {row[0]: row[1:] for row in run(Sky("\n".join(["sky", *lines])))}


def log(name, *lines):
    return told(*lines)[name][2]


def ordered(rows):
    """Rows of a log, those of one time sorted anew: heard, passed, own ones as they stand."""
    kinds = {"heard": 0, "passed": 1}
    keyed = []
    for number, row in enumerate(rows):
        kind = kinds.get(row[1], 2)
        keyed.append(((worth(row[0]), kind, row[2:4] if kind == 0 else row[2:3] if kind == 1 else (number,)), row))
    return tuple(row for _, row in sorted(keyed))


class RandomSkies(unittest.TestCase):
    def test_as_worked_out_another_way(self):
        seen_kinds, ended, endless = set(), 0, 0
        for number, text in enumerate(SKIES):
            found = run(Sky(text))
            look = Fraction((number % 7) + 1, (number % 5) + 1)
            self.assertEqual(found, expected_run(text, look), text)
            for (_, _, done, rows), ship in zip(found, Sky(text).ships):
                ended += sum(line.startswith("until") for line in ship[3][:done])
                endless += done < len(ship[3])
                seen_kinds |= {row[1] for row in rows}
        self.assertEqual(seen_kinds, {"heard", "passed", "felt", "sent"})
        self.assertGreater(ended, 200)
        self.assertGreater(endless, 50)

    def test_rows_stand_at_the_events_they_tell_of(self):
        for text in SKIES[:60]:
            movers, flashes = movers_of(text)
            beside = {mover.name: mover for mover in movers}
            for name, _, _, rows in run(Sky(text)):
                times = [worth(row[0]) for row in rows]
                self.assertEqual(times, sorted(times))
                for row in rows:
                    u, v = beside[name].at(worth(row[0]))
                    if row[1] == "heard":
                        _, from_u, from_v, _ = flashes[row[4]]
                        self.assertTrue((v == from_v and u > from_u) if row[2] == "left" else (u == from_u and v > from_v))
                    elif row[1] == "passed":
                        other = beside[row[2]]
                        self.assertEqual(other.at(other.time_where(u)), (u, v))

    def test_kinds(self):
        for text in SKIES[:60]:
            found = run(Sky(text))
            self.assertIs(type(found), tuple)
            for row in found:
                self.assertEqual([type(part) for part in row], [str, str, int, tuple])
                self.assertEqual(Flight(row[1]).text, row[1])
            for part in strict_parts(found):
                self.assertIn(type(part), (tuple, str, int))

    def test_flights_end_where_the_last_line_was_done(self):
        for text in SKIES[:60]:
            movers, _ = movers_of(text)
            for mover, row in zip(movers, run(Sky(text))):
                self.assertEqual(Flight(row[1]).goal, event(*mover.marks[-1]))


class OneRun(unittest.TestCase):
    def test_seen(self):
        for text in SKIES[::2]:
            for pace in ((2, 1), (3, 5)):
                look = run(seen_sky(Sky(text), pace))
                self.assertEqual([row[2:] for row in look], [row[2:] for row in run(Sky(text))])
                for here, there in zip(run(Sky(text)), look):
                    self.assertEqual(here[1].split("\n")[1:], there[1].split("\n")[1:])

    def test_shifted(self):
        for text in SKIES[::2]:
            moved = run(shifted_sky(Sky(text), event("5/3", -2)))
            self.assertEqual([row[2:] for row in moved], [row[2:] for row in run(Sky(text))])

    def test_mirrored(self):
        for text in SKIES[::2]:
            expected = []
            for name, _, done, rows in run(Sky(text)):
                glass = []
                for row in rows:
                    if row[1] == "heard":
                        row = row[:2] + ({"left": "right", "right": "left"}[row[2]],) + row[3:]
                    elif row[1] in ("passed", "felt"):
                        row = row[:-1] + ((row[-1][1], row[-1][0]),)
                    glass.append(row)
                expected.append((name, done, ordered(glass)))
            found = run(mirrored_sky(Sky(text)))
            self.assertEqual([(row[0], row[2], row[3]) for row in found], expected)

    def test_renamed(self):
        for text in SKIES[::2]:
            sky = Sky(text)
            names = ("f", "za", "c", "e", "dd", "a")[:len(sky)]
            other = dict(zip(sky.names, names))
            expected = []
            for name, flight, done, rows in run(sky):
                called = []
                for row in rows:
                    at = {"heard": 3, "passed": 2}.get(row[1])
                    called.append(row if at is None else row[:at] + (other[row[at]],) + row[at + 1:])
                expected.append((other[name], flight, done, ordered(called)))
            self.assertEqual(run(renamed(sky, names)), tuple(expected))

    def test_ships_in_another_sequence(self):
        chance = Random(3)
        for text in SKIES[::2]:
            blocks = text[len("sky\n"):].split("\nship ")
            blocks = [block.removeprefix("ship ") for block in blocks]
            chance.shuffle(blocks)
            other = "sky\n" + "\n".join("ship " + block for block in blocks)
            self.assertEqual(sorted(run(Sky(other))), sorted(run(Sky(text))))

    def test_equal_calls_and_names(self):
        sky = Sky(TALK)
        self.assertEqual(run(sky=sky), run(Sky(TALK)))
        self.assertEqual(why(name="a", sky=sky), why(sky, "a"))
        self.assertEqual((sky.text, sky.ships), (TALK, Sky(TALK).ships))


class Lines(unittest.TestCase):
    def test_without_lines(self):
        self.assertEqual(told("ship a -1/2 3 2/3"), {"a": ("flight -1/2 3 2/3", 0, ())})

    def test_fly_and_turn(self):
        self.assertEqual(told("ship a 0 0 1", "turn 2", "fly 3/2", "turn 1/2", "turn 5", "fly 1", "turn 3")["a"], (
            "flight 0 0 1\nturn 2\nfly 3/2\nturn 1/2\nturn 5\nfly 1\nturn 3", 6,
            (((0, 1), "felt", (2, 1)), ((3, 2), "felt", (1, 2)), ((3, 2), "felt", (5, 1)), ((5, 2), "felt", (3, 1)))))

    def test_flash(self):
        self.assertEqual(log("a", "ship a 0 0 1", "flash x", "fly 2", "turn 1", "flash y", "turn 2", "flash z"), (
            ((0, 1), "sent", "x"), ((2, 1), "felt", (1, 1)), ((2, 1), "sent", "y"), ((2, 1), "felt", (2, 1)),
            ((2, 1), "sent", "z")))

    def test_talk_of_section_7(self):
        found = told(*TALK.split("\n")[1:])
        self.assertEqual(found["a"][0], "flight 0 0 1\nfly 4\nfly 1")
        self.assertEqual(Flight(found["b"][0]).at((2, 1)), event(4, 0))
        self.assertEqual(Flight(found["a"][0]).at((4, 1)), event(4, 4))

    def test_cross_of_section_7(self):
        lines = ("ship d 0 0 2", "fly 5", "ship e 3 -3 1", "fly 6")
        self.assertEqual(Flight(told(*lines)["d"][0]).at((4, 1)), event(8, 2))
        self.assertEqual(Flight(told(*lines)["e"][0]).at((5, 1)), event(8, 2))


class Waits(unittest.TestCase):
    SENDER = ("ship s 0 0 1", "fly 1", "flash p")

    def test_the_flash_comes_later(self):
        found = told(*self.SENDER, "ship b 3 -3 1", "until left p", "fly 2")["b"]
        self.assertEqual(found, ("flight 3 -3 1\nfly 4\nfly 2", 2, (((4, 1), "heard", "left", "s", "p", (1, 1)),)))
        found = told(*self.SENDER, "ship b -3 3 1", "until right p")["b"]
        self.assertEqual(found, ("flight -3 3 1\nfly 4", 1, (((4, 1), "heard", "right", "s", "p", (1, 1)),)))

    def test_the_sender_may_stand_behind_in_the_text_and_send_after_many_waits(self):
        lines = ("ship b 3 -3 1", "until left p", "flash q", "ship s 0 0 1", "fly 1", "flash p", "until right q",
                 "flash r")
        self.assertEqual([told(*lines)[name][1] for name in "bs"], [2, 4])

    def test_from_the_other_side(self):
        found = told(*self.SENDER, "ship b 3 -3 1", "until right p", "fly 2")["b"]
        self.assertEqual(found, ("flight 3 -3 1", 0, (((4, 1), "heard", "left", "s", "p", (1, 1)),)))

    def test_at_its_own_event_is_none(self):
        # Waiting from (1, 1), where p is sent: it never comes there, nor later.
        for side in ("left", "right"):
            found = told(*self.SENDER, "ship b 1 1 2", f"until {side} p")["b"]
            self.assertEqual(found[:2], ("flight 1 1 2", 0))
            self.assertEqual(found[2], (((0, 1), "passed", "s", (1, 2)),))
            # Nor when it comes by later.
            found = told(*self.SENDER, "ship b -1 1/2 2", f"until {side} p", "fly 1")["b"]
            self.assertEqual((found[1], found[2][0][1]), (0, "passed"))

    def test_a_flash_that_comes_as_the_wait_begins_is_too_early(self):
        # b begins to wait at (4, 1), just where p comes from the left, or has flown there.
        for lines in (("ship b 4 1 1", "until left p"), ("ship b 2 -1 1", "fly 2", "until left p")):
            found = told(*self.SENDER, *lines)["b"]
            self.assertEqual([row[1:5] for row in found[2]], [("heard", "left", "s", "p")])
            self.assertEqual(found[1], len(lines) - 2)

    def test_a_second_wait_for_the_same_flash(self):
        found = told(*self.SENDER, "ship b 3 -3 1", "until left p", "until left p", "fly 1")["b"]
        self.assertEqual(found[:2], ("flight 3 -3 1\nfly 4", 1))
        self.assertEqual(len(found[2]), 1)

    def test_the_flash_went_by(self):
        found = told(*self.SENDER, "ship b 3 -3 1", "fly 5", "until left p", "fly 1")["b"]
        self.assertEqual(found, ("flight 3 -3 1\nfly 5", 1, (((4, 1), "heard", "left", "s", "p", (1, 1)),)))

    def test_a_word_that_nobody_sends_or_the_ship_itself(self):
        for line in ("until left q", "until right q"):
            found = told(*self.SENDER, "ship b 3 -3 1", line, "turn 2")["b"]
            self.assertEqual(found[:2], ("flight 3 -3 1", 0))
        found = told("ship b 3 -3 1", "flash p", "fly 1", "until left p", "turn 2")["b"]
        self.assertEqual(found, ("flight 3 -3 1\nfly 1", 2, (((0, 1), "sent", "p"),)))
        found = told("ship b 3 -3 1", "until left p", "flash p")["b"]
        self.assertEqual(found, ("flight 3 -3 1", 0, ()))

    def test_talk_of_many_flashes(self):
        one = ["ship a 0 0 1"] + [line for k in range(10) for line in (f"flash {'pqrstuvwxy'[k]}", f"until right a{'pqrstuvwxy'[k]}")]
        other = ["ship b 1 -1 1"] + [line for k in range(10) for line in (f"until left {'pqrstuvwxy'[k]}", f"flash a{'pqrstuvwxy'[k]}")]
        found = told(*one, *other)
        self.assertEqual((found["a"][1], found["b"][1]), (20, 20))
        self.assertEqual([row[0] for row in found["a"][2] if row[1] == "heard"], [(2 * k + 2, 1) for k in range(10)])
        self.assertEqual([row[0] for row in found["b"][2] if row[1] == "heard"], [(2 * k + 1, 1) for k in range(10)])

    def test_talk_with_a_ship_that_goes_off(self):
        lines = ["ship a 0 0 1", "fly 1"]
        for k in "pqrst":
            lines.extend([f"flash {k}", f"until right a{k}"])
        lines.extend(["ship b 0 0 2", "fly 1/2"])
        for k in "pqrst":
            lines.extend([f"until left {k}", f"flash a{k}"])
        found = told(*lines)
        self.assertEqual([row[0] for row in found["b"][2] if row[1] == "heard"], [(2 * 4 ** k, 1) for k in range(5)])
        self.assertEqual([row[0] for row in found["a"][2] if row[1] == "heard"], [(4 ** k, 1) for k in range(1, 6)])

    def test_a_wait_for_ever_still_hears_and_passes(self):
        lines = ("ship b 0 0 1", "until left none", "flash x", "ship s -10 30 2", "fly 60", "flash p",
                 "ship e 101 95 1", "fly 7", "ship w 200 200 1")
        found = told(*lines)["b"]
        self.assertEqual(found[:2], ("flight 0 0 1", 0))
        self.assertEqual(found[2], (
            ((130, 3), "passed", "s", (2, 1)), ((110, 1), "heard", "right", "s", "p", (1, 2)),
            ((200, 1), "passed", "w", (1, 1))))

    def test_two_that_wait_for_ever_pass_one_another(self):
        lines = ("ship a 0 0 2", "until left none", "ship b 300 -100 1", "until left none", "ship c 0 1 1", "until left none",
                 "ship d 0 -1 1", "until left none")
        found = told(*lines)
        self.assertEqual(found["c"][2], ())
        self.assertEqual([row[2] for row in found["a"][2]], ["d", "b"])
        self.assertEqual([(worth(found[one][2][k][0]), found[one][2][k][3]) for one, k in (("b", 0), ("d", 0))],
                         [(worth(found["b"][2][0][0]), (2, 1)), (Fraction(4, 3), (2, 1))])

    def test_no_ship_is_there_behind_its_end(self):
        lines = ("ship a 0 0 1", "fly 2", "ship b 4 -4 1", "fly 1", "flash p", "ship c 3 1 1/2", "fly 4")
        self.assertEqual(told(*lines)["a"][2], ())


class Heard(unittest.TestCase):
    def test_at_the_first_and_at_the_last_event(self):
        for name, line, expected in (("h", "ship h 2 0 3", (0, 1)), ("h", "ship h 0 2 3", (0, 1))):
            found = log(name, "ship s 0 0 1", "flash p", line)
            self.assertEqual([row[0] for row in found], [expected])
        self.assertEqual([row[:3] for row in log("h", "ship s 0 0 1", "flash p", "ship h 1 -2 1", "fly 2")],
                         [((2, 1), "heard", "left")])
        self.assertEqual(log("h", "ship s 0 0 1", "flash p", "ship h 1 -2 1", "fly 199/100"), ())
        self.assertEqual(log("h", "ship s 0 0 1", "flash p", "ship h 1 1/100 1", "fly 9"), ())

    def test_flashes_from_first_and_last_events(self):
        found = log("h", "ship s 0 0 1", "flash p", "fly 2", "flash q", "ship h 9 -9 1", "fly 20")
        self.assertEqual([(row[0], row[4]) for row in found], [((9, 1), "p"), ((11, 1), "q")])

    def test_colours_behind_all_turns_there(self):
        lines = ("ship s 0 0 1", "turn 2", "flash p", "turn 3", "fly 1", "turn 5",
                 "ship h 1 -1 1", "fly 1", "turn 2", "turn 1/7", "fly 1",
                 "ship g 1 -1 1", "fly 1", "turn 4",
                 "ship f 3 0 1/2", "turn 8")
        self.assertEqual([row for row in log("h", *lines) if row[1] == "heard"],
                         [((1, 1), "heard", "left", "s", "p", (21, 1))])
        self.assertEqual([row[-1] for row in log("g", *lines) if row[1] == "heard"], [(3, 2)])
        self.assertEqual([row[-1] for row in log("f", *lines) if row[1] == "heard"], [(3, 2)])

    def test_colours_from_both_sides(self):
        lines = ("ship s 0 0 3", "flash p", "ship l -1 1 1/2", "fly 9", "ship r 1 -1 5", "fly 9")
        self.assertEqual([row[1:] for row in log("l", *lines)], [("heard", "right", "s", "p", (1, 6))])
        self.assertEqual([row[1:] for row in log("r", *lines)], [("heard", "left", "s", "p", (3, 5))])
        self.assertEqual(colour("right", (3, 1), (1, 2)), (1, 6))

    def test_rows_of_one_time_are_sorted(self):
        lines = ("ship h 0 0 1", "flash own", "turn 2", "ship z -1 0 1", "flash b", "flash a", "ship y 0 -1 1", "flash c",
                 "ship d -2 0 1", "flash z", "ship c 0 0 1", "ship b 0 0 3", "flash y")
        self.assertEqual([row[1:5] for row in log("h", *lines)], [
            ("heard", "left", "d", "z"), ("heard", "left", "z", "a"), ("heard", "left", "z", "b"),
            ("heard", "right", "y", "c"), ("passed", "b", (3, 2)), ("passed", "c", (1, 2)), ("sent", "own"),
            ("felt", (2, 1))])

    def test_rows_ascend_by_worth(self):
        lines = ["ship h 0 0 1", "fly 1/3", "flash a", "fly 1/6", "flash b", "fly 3/2", "flash c", "fly 8", "flash d",
                 "ship s -1 5/12 1", "flash e", "ship t -1 7/3 1", "flash f"]
        self.assertEqual([row[0] for row in log("h", *lines)],
                         [pair(text) for text in ("1/3", "5/12", "1/2", "2", "7/3", "10")])


class Passed(unittest.TestCase):
    def test_at_first_and_last_events(self):
        for lines in (("ship a 0 0 1", "fly 3", "ship b 2 2 1/2"), ("ship a 0 0 1", "fly 2", "ship b 2 2 1/2", "fly 1"),
                      ("ship a 0 0 1", "fly 2", "ship b 1 4 2", "ship c 2 2 1/2")):
            found = told(*lines)
            last = "c" if "c" in found else "b"
            self.assertEqual(found["a"][2], (((2, 1), "passed", last, (1, 2)),))
            self.assertEqual(found[last][2], (((0, 1), "passed", "a", (2, 1)),))
        self.assertEqual(told("ship a 1 2 3", "ship b 1 2 4")["b"][2], (((0, 1), "passed", "a", (3, 4)),))

    def test_on_legs(self):
        found = told("ship a 0 0 2", "fly 1", "turn 1/4", "fly 4", "ship b 0 3 2", "fly 9", "ship c 3 1 1", "fly 9")
        self.assertEqual(found["c"][2], (((11, 3), "passed", "b", (2, 1)),))
        self.assertEqual(found["a"][2], (((1, 1), "felt", (1, 4)), ((13, 5), "passed", "b", (4, 1))))
        self.assertEqual(found["b"][2], (((7, 5), "passed", "a", (1, 4)), ((10, 3), "passed", "c", (1, 2))))

    def test_at_turns_by_the_paces_behind_them(self):
        lines = ("ship a 0 0 1", "fly 2", "turn 3", "turn 2", "fly 1", "ship b 1 1 1/2", "turn 2", "fly 1", "turn 5", "fly 1")
        found = told(*lines)
        # Together from (1, 1) until both turn at (2, 2): the first event alone is told.
        self.assertEqual([row for row in found["a"][2] if row[1] == "passed"], [((1, 1), "passed", "b", (1, 1))])
        self.assertEqual([row for row in found["b"][2] if row[1] == "passed"], [((0, 1), "passed", "a", (1, 1))])
        lines = ("ship a 0 0 1", "fly 2", "turn 3", "turn 2", "fly 1", "ship f 0 15/8 4", "fly 1/2", "turn 1/4", "turn 9")
        self.assertEqual(log("a", *lines)[0], ((2, 1), "passed", "f", (3, 2)))
        self.assertEqual(log("f", *lines)[0], ((1, 2), "passed", "a", (2, 3)))

    def test_a_turn_to_and_fro_through_another_one(self):
        # a touches b as it turns there, without going through.
        lines = ("ship a 0 2 1", "turn 2", "fly 1", "turn 1/4", "fly 9", "ship b 0 1/2 1", "fly 9")
        self.assertEqual([row[1:] for row in log("b", *lines)], [("passed", "a", (1, 2))])

    def test_together_for_a_while_parted_and_together_again(self):
        lines = ("ship a 0 0 1", "fly 12", "ship b 0 0 1", "fly 2", "turn 2", "fly 2", "turn 1/4", "fly 2", "turn 2", "fly 1",
                 "turn 1/2", "turn 2", "fly 1", "turn 3", "fly 1")
        found = told(*lines)
        passed = [row for row in found["b"][2] if row[1] == "passed"]
        self.assertEqual(found["a"][2], (((0, 1), "passed", "b", (1, 1)), ((7, 1), "passed", "b", (1, 1))))
        self.assertEqual(passed, [((0, 1), "passed", "a", (1, 1)), ((6, 1), "passed", "a", (1, 1))])

    def test_both_turn_alike_and_stay_together(self):
        lines = ("ship a 0 0 1", "fly 2", "turn 2", "fly 1", "ship b 0 0 1", "fly 1", "fly 1", "turn 4", "turn 1/2", "fly 5")
        found = told(*lines)
        self.assertEqual([row for row in found["a"][2] if row[1] == "passed"], [((0, 1), "passed", "b", (1, 1))])
        self.assertEqual([row for row in found["b"][2] if row[1] == "passed"], [((0, 1), "passed", "a", (1, 1))])

    def test_ending_as_the_other_begins(self):
        found = told("ship a 0 0 1", "fly 2", "ship b 2 2 1", "fly 2", "ship c 4 4 1", "until left none")
        self.assertEqual(found["a"][2], (((2, 1), "passed", "b", (1, 1)),))
        self.assertEqual(found["b"][2], (((0, 1), "passed", "a", (1, 1)), ((2, 1), "passed", "c", (1, 1))))
        self.assertEqual(found["c"][2], (((0, 1), "passed", "b", (1, 1)),))

    def test_together_for_ever(self):
        found = told("ship a 0 0 1", "until left none", "ship b 5 5 1", "until left none", "ship c 7 7 1/2", "turn 2",
                     "until right none")
        self.assertEqual([row[:3] for row in found["a"][2]], [((5, 1), "passed", "b"), ((7, 1), "passed", "c")])
        self.assertEqual([row[:3] for row in found["c"][2]],
                         [((0, 1), "passed", "a"), ((0, 1), "passed", "b"), ((0, 1), "felt", (2, 1))])

    def test_all_ships_at_one_event(self):
        lines = [f"ship {name} 1/2 -3 {pace}" for pace, name in enumerate("fbdace", start=1)]
        found = told(*lines)
        for pace, name in enumerate("fbdace", start=1):
            expected = [((0, 1), "passed", other, pair(Fraction(other_pace, pace)))
                        for other_pace, other in enumerate("fbdace", start=1) if other != name]
            self.assertEqual(found[name][2], tuple(sorted(expected)))


class Why(Raises, unittest.TestCase):
    def test_each_answer(self):
        lines = ("sky", "ship a 0 0 1", "flash p", "until left q", "ship b 2 -2 1", "until right p", "ship c 2 -2 1",
                 "until left p", "flash own", "until left own", "flash late", "ship d 9 9 1", "until left late",
                 "ship e 0 0 1", "until left self", "flash self")
        sky = Sky("\n".join(lines))
        self.assertEqual([why(sky, name) for name in "abcde"], [
            ("unsent", "q"), ("passed", "p"), ("passed", "own"), ("stuck", "c"), ("stuck", "e")])

    def test_done(self):
        sky = Sky(TALK + "\nship w 0 0 3\nship x 0 0 1\nfly 1")
        self.assertEqual([why(sky, name) for name in sky.names], [("done",)] * 4)

    def test_rings_of_all_lengths(self):
        for many in range(1, 7):
            names = "abcdef"[:many]
            lines = ["sky"]
            for k, name in enumerate(names):
                lines.extend([f"ship {name} {k} {-k} 1", f"until left {names[(k + 1) % many]}", f"flash {name}"])
            for k, name in enumerate("xyz"[:6 - many]):
                lines.extend([f"ship {name} 0 0 1", f"until right {('a' + 'xyz')[k]}", f"flash {name}"])
            sky = Sky("\n".join(lines))
            self.assertEqual([why(sky, name) for name in names],
                             [("stuck", names[(k + 1) % many]) for k in range(many)])
            self.assertEqual([why(sky, name) for name in "xyz"[:6 - many]],
                             [("stuck", name) for name in ("a" + "xyz")[:6 - many]][:len(sky) - many])
            self.assertEqual({row[2] for row in run(sky)}, {0})

    def test_random_skies(self):
        words = set()
        for text in SKIES:
            sky = Sky(text)
            movers, flashes = movers_of(text)
            for mover in movers:
                if mover.done == len(mover.lines):
                    expected = ("done",)
                else:
                    word = mover.lines[mover.done].split(" ")[2]
                    senders = [other.name for other in movers if f"flash {word}" in other.lines]
                    if word in flashes:
                        expected = ("passed", word)
                    else:
                        expected = ("stuck", senders[0]) if senders else ("unsent", word)
                self.assertEqual(why(sky, mover.name), expected)
                words.add(expected[0])
        self.assertEqual(words, {"done", "unsent", "passed", "stuck"})

    def test_names(self):
        sky = Sky(TALK)
        for value in no_names() + ["c", "A", "p", "q", "ab", 0, 1]:
            self.assert_told(NoName, value, why, sky, value)


class Great(unittest.TestCase):
    def test_great_numbers(self):
        lines = ["sky"]
        for k, name in enumerate("abcdef"):
            pace = Fraction(10 ** 11 + k, 10 ** 11 - 3 * k - 1)
            lines.append(f"ship {name} {10 ** 11 + k} -{10 ** 11 + 7 * k} {pace}")
            for n in range(10):
                time = Fraction(999999999989 - n, 10 ** 11 + 1 + n * 6 + k)
                lines.extend([f"fly {time}", f"flash {'pqrstuvwxy'[n]}{name}"])
        text = "\n".join(lines)
        found = run(Sky(text))
        self.assertEqual(found, expected_run(text))

    def test_twenty_lines_each(self):
        for text in random_skies(9, 12, ships=6, most=20, waits=False):
            self.assertEqual(run(Sky(text)), expected_run(text))

    def test_permuted_names(self):
        text = "sky\nship {} 0 0 1\nflash p\nfly 5\nship {} 2 -2 1\nuntil left p\nflash q\nship {} 1 1 2\nfly 4"
        for names in permutations("abc"):
            rows = run(Sky(text.format(*names)))
            self.assertEqual(rows, expected_run(text.format(*names)))
            for name, flight, _, log_rows in rows:
                for row in log_rows:
                    self.assertIsNotNone(when(Flight(flight), Flight(flight).at(row[0])))


if __name__ == "__main__":
    unittest.main()
