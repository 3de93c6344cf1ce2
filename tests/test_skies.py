import unittest
from fractions import Fraction
from itertools import permutations

from crewclocks.errors import BadEvent, BadNames, BadPace, BadSky
from crewclocks.events import mirrored, seen, shifted
from crewclocks.flights import Flight
from crewclocks.skies import Sky, mirrored_sky, renamed, seen_sky, shifted_sky
from helpers import Raises, event, no_events, no_fractions, no_names, no_paces, pair
from oracle import random_skies

TALK = ("sky\nship a 0 0 1\nflash p\nuntil right q\nfly 1\n"
        "ship b 2 -2 1\nuntil left p\nturn 2\nflash q\nfly 3")
SHIP = "ship a 0 0 1"
TEXTS = [TALK, "sky\nship a 0 0 1", "sky\nship x -1/2 7/3 2/5\nfly 1/2\nturn 3/4\nuntil left x\nflash y"] + random_skies(7, 30)
LETTERS = "abcdefghijklmnopqrstuvwxyz"


class Attributes(unittest.TestCase):
    def test_all_attributes(self):
        sky = Sky(TALK)
        self.assertEqual((sky.text, sky.names, len(sky)), (TALK, ("a", "b"), 2))
        self.assertEqual(sky.ships, (
            ("a", event(0, 0), (1, 1), ("flash p", "until right q", "fly 1")),
            ("b", event(2, -2), (1, 1), ("until left p", "turn 2", "flash q", "fly 3"))))
        self.assertEqual(Sky(text="sky\nship abcdef -1/2 7/3 2/5").ships,
                         (("abcdef", event("-1/2", "7/3"), (2, 5), ()),))

    def test_kinds(self):
        sky = Sky(TALK)
        for value in (sky.names, sky.ships, sky.ships[0], sky.ships[0][1], sky.ships[0][3]):
            self.assertIs(type(value), tuple)
        self.assertIs(type(len(sky)), int)

    def test_any_text(self):
        for text in TEXTS:
            sky = Sky(text)
            lines = text.split("\n")[1:]
            heads = [line.split(" ") for line in lines if line.startswith("ship ")]
            self.assertEqual(sky.text, text)
            self.assertEqual(sky.names, tuple(words[1] for words in heads))
            self.assertEqual(len(sky), len(heads))
            again = []
            for name, at, pace, script in sky.ships:
                again.extend([f"ship {name} {Fraction(*at[0])} {Fraction(*at[1])} {Fraction(*pace)}", *script])
            self.assertEqual(again, lines)

    def test_every_form_of_a_line(self):
        lines = ("fly 1", "fly 1/2", "fly 999999999999/8", "turn 1", "turn 3/2", "turn 1/1000", "flash a", "flash abcdef",
                 "flash until", "flash flash", "until left a", "until right a", "until left left", "until right flash")
        self.assertEqual(Sky("\n".join(["sky", SHIP, *lines])).ships[0][3], lines)

    def test_six_ships_with_twenty_lines(self):
        script = ["fly 1", "turn 2"] * 10
        lines = ["sky"] + [line for name in "abcdef" for line in [f"ship {name} 0 0 1"] + script]
        sky = Sky("\n".join(lines))
        self.assertEqual((len(sky), sky.names), (6, tuple("abcdef")))
        self.assertEqual({ship[3] for ship in sky.ships}, {tuple(script)})

    def test_names_and_words_may_be_alike(self):
        sky = Sky("sky\nship a 0 0 1\nflash a\nuntil left a\nuntil left a\nship b 0 0 1\nflash b\nuntil left none")
        self.assertEqual(sky.names, ("a", "b"))


class Equality(unittest.TestCase):
    def test_by_texts(self):
        for one in TEXTS:
            for other in TEXTS:
                self.assertIs(Sky(one) == Sky(other), one == other)
                self.assertIs(Sky(one) != Sky(other), one != other)

    def test_equal_to_nothing_else(self):
        sky = Sky(TALK)
        for other in [TALK, sky.ships, sky.names, (TALK,), [TALK], Flight("flight 0 0 1")] + no_fractions():
            self.assertIs(sky == other, False)
            self.assertIs(other == sky, False)
            self.assertIs(sky != other, True)


class Wrong(Raises, unittest.TestCase):
    def test_no_string(self):
        for value in no_fractions() + [b"sky", ["sky", SHIP], (TALK,), Sky(TALK), (1, 2)]:
            if not isinstance(value, str):
                self.assert_number(BadSky, 0, Sky, value)

    def test_first_line(self):
        for line in ("", " ", "Sky", "SKY", " sky", "sky ", "sky a", "book", "bench", SHIP, "skysky", "fly 1"):
            self.assert_number(BadSky, 1, Sky, line)
            self.assert_number(BadSky, 1, Sky, f"{line}\n{SHIP}")
            self.assert_number(BadSky, 1, Sky, f"{line}\nfly 0")

    def test_no_ship(self):
        self.assert_number(BadSky, 2, Sky, "sky")
        self.assert_number(BadSky, 2, Sky, "sky\n")
        self.assert_number(BadSky, 2, Sky, "sky\n\n")

    def test_lines_ahead_of_all_ships(self):
        for line in ("fly 1", "turn 2", "flash a", "until left a", "", "sky"):
            self.assert_number(BadSky, 2, Sky, f"sky\n{line}")
            self.assert_number(BadSky, 2, Sky, f"sky\n{line}\n{SHIP}")

    def test_line_feeds_at_the_end(self):
        self.assert_number(BadSky, 3, Sky, f"sky\n{SHIP}\n")
        self.assert_number(BadSky, 4, Sky, f"sky\n{SHIP}\nfly 1\n")
        self.assert_number(BadSky, 4, Sky, f"sky\n{SHIP}\nfly 1\n\n")
        self.assert_number(BadSky, 1, Sky, f"\nsky\n{SHIP}")

    def test_a_seventh_ship(self):
        lines = ["sky"]
        for name in "abcdef":
            lines.extend([f"ship {name} 0 0 1", "fly 1"])
        self.assertEqual(len(Sky("\n".join(lines))), 6)
        self.assert_number(BadSky, 14, Sky, "\n".join(lines + ["ship g 0 0 1"]))
        self.assert_number(BadSky, 15, Sky, "\n".join(lines + ["fly 1", "ship g 0 0 1", "fly 1"]))

    def test_a_21st_line(self):
        for line in ("fly 1", "turn 2", "flash a", "until left a"):
            text = f"sky\n{SHIP}" + "\nfly 1" * 20
            self.assertEqual(len(Sky(text).ships[0][3]), 20)
            self.assert_number(BadSky, 23, Sky, f"{text}\n{line}")
            self.assert_number(BadSky, 24, Sky, f"{text}\nship b 0 0 1\nfly\nfly 1")
            self.assert_number(BadSky, 44, Sky, f"{text}\nship b 0 0 1" + "\nfly 1" * 21)

    def test_names_and_words_a_second_time(self):
        self.assert_number(BadSky, 3, Sky, f"sky\n{SHIP}\nship a 1 1 2")
        self.assert_number(BadSky, 5, Sky, f"sky\n{SHIP}\nship b 0 0 1\nfly 1\nship a 1 1 2")
        self.assert_number(BadSky, 4, Sky, f"sky\n{SHIP}\nflash p\nflash p")
        self.assert_number(BadSky, 6, Sky, f"sky\n{SHIP}\nflash p\nship b 0 0 1\nuntil left p\nflash p\nfly 0")

    def test_names_and_words(self):
        for word in ("", "abcdefg", "A", "aB", "a1", "1", "a_b", "a-b", "a.b", "p\u00e4p", "(a)", "a,"):
            self.assert_number(BadSky, 2, Sky, f"sky\nship {word} 0 0 1")
            self.assert_number(BadSky, 3, Sky, f"sky\n{SHIP}\nflash {word}")
            self.assert_number(BadSky, 3, Sky, f"sky\n{SHIP}\nuntil left {word}")
            self.assert_number(BadSky, 3, Sky, f"sky\n{SHIP}\nuntil right {word}")
        for letter in LETTERS:
            sky = Sky(f"sky\nship {letter * 6} 0 0 1\nflash {letter * 6}\nuntil left {letter}")
            self.assertEqual(sky.names, (letter * 6,))

    def test_fractions(self):
        for wrong in ("2/4", "3/1", "+1", "01", "-0", "1/-2", "1_0", "1/0", "0/1", "0/0", "1/2/3", "/2", "1/", "-", "--1",
                      "1/02", "00", "1.0", "1e3", "0x1", "1/1", "one", "None", "True", "", "a"):
            for words in ((wrong, "0", "1"), ("0", wrong, "1"), ("0", "0", wrong)):
                self.assert_number(BadSky, 2, Sky, "sky\nship a " + " ".join(words))
            for word in ("fly", "turn"):
                self.assert_number(BadSky, 4, Sky, f"sky\n{SHIP}\nfly 1\n{word} {wrong}\nfly 0")
        for wrong in ("0", "-1", "-1/2"):
            self.assert_number(BadSky, 2, Sky, f"sky\nship a 0 0 {wrong}")
            for word in ("fly", "turn"):
                self.assert_number(BadSky, 3, Sky, f"sky\n{SHIP}\n{word} {wrong}")

    def test_forms_of_ship_lines(self):
        for line in ("ship", "ship a", "ship a 0", "ship a 0 0", "ship a 0 0 1 1", "ship a 0 0 1 ", " ship a 0 0 1",
                     "ship  a 0 0 1", "ship a  0 0 1", "ship a 0 0  1", "Ship a 0 0 1", "ships a 0 0 1", "ship 0 0 1",
                     "flight 0 0 1", "ship\ta 0 0 1", "ship a (0, 1) (0, 1) (1, 1)", "shi a 0 0 1"):
            self.assert_number(BadSky, 2, Sky, f"sky\n{line}")
            self.assert_number(BadSky, 4, Sky, f"sky\nship b 0 0 1\nfly 1\n{line}\nfly 0")

    def test_forms_of_script_lines(self):
        lines = [
            "", " ", "fly", "turn", "flash", "until", "fly ", "turn ", "flash ", "until ", "fly  1", "turn  1", "flash  a",
            "until  left a", "until left  a", "fly 1 ", " fly 1", "turn 1 ", "flash a ", " flash a", "until left a ",
            " until left a", "fly 1 1", "turn 1 1", "flash a b", "until left a b", "until a", "until left", "until left ",
            "until Left a", "until u a", "until a left", "until leftright a", "Fly 1", "TURN 1", "Flash a", "wait left a",
            "back a", "turn a", "fly a", "flash 1", "until 1 a", "sky", "book", "felt a 1 1", "fly\t1", "fly 1;fly 1",
            "until  a", "until left a fly 1",
        ]
        for line in lines:
            self.assert_number(BadSky, 3, Sky, f"sky\n{SHIP}\n{line}")
            self.assert_number(BadSky, 5, Sky, f"sky\n{SHIP}\nfly 1\nflash p\n{line}\nfly 0\nship a 0 0 1")
            self.assert_number(BadSky, 6, Sky, f"sky\n{SHIP}\nfly 1\nship b 0 0 1\nfly 2\n{line}")


class Made(Raises, unittest.TestCase):
    PACES = [pair(text) for text in ("1", "2", "1/3", "7/2")]

    def test_seen(self):
        for text in TEXTS:
            for pace in self.PACES:
                sky = Sky(text)
                look = seen_sky(sky, pace)
                self.assertIs(type(look), Sky)
                self.assertEqual(look.ships, tuple(
                    (name, seen(at, pace), pair(Fraction(*own) / Fraction(*pace)), lines)
                    for name, at, own, lines in sky.ships))
                self.assertEqual(seen_sky(pace=(pace[1], pace[0]), sky=look), sky)
                self.assertEqual(sky.text, text)

    def test_shifted(self):
        for text in TEXTS:
            for by in (event(0, 0), event("1/2", -3), event(-7, "5/3")):
                sky = Sky(text)
                moved = shifted_sky(sky, by)
                self.assertIs(type(moved), Sky)
                self.assertEqual(moved.ships, tuple(
                    (name, shifted(at, by), pace, lines) for name, at, pace, lines in sky.ships))
                self.assertEqual(shifted_sky(by=tuple((-top, bottom) for top, bottom in by), sky=moved), sky)

    def test_mirrored(self):
        for text in TEXTS:
            sky = Sky(text)
            glass = mirrored_sky(sky=sky)
            self.assertIs(type(glass), Sky)
            self.assertEqual([ship[:3] for ship in glass.ships],
                             [(name, mirrored(at), (pace[1], pace[0])) for name, at, pace, _ in sky.ships])
            self.assertEqual(mirrored_sky(glass), sky)
        lines = ("fly 2/3", "turn 3", "turn 2/5", "turn 1/4", "turn 1", "flash left", "until left right", "until right p")
        self.assertEqual(mirrored_sky(Sky("\n".join(["sky", "ship a 1 -2 3/2", *lines]))).text.split("\n")[1:], [
            "ship a -2 1 2/3", "fly 2/3", "turn 1/3", "turn 5/2", "turn 4", "turn 1", "flash left", "until right right",
            "until left p"])

    def test_renamed(self):
        for text in TEXTS:
            sky = Sky(text)
            names = ("zz", "y", "abcdef", "a", "b", "q")[:len(sky)]
            other = renamed(sky, names)
            self.assertIs(type(other), Sky)
            self.assertEqual((other.names, len(other)), (names, len(sky)))
            self.assertEqual([ship[1:] for ship in other.ships], [ship[1:] for ship in sky.ships])
            self.assertEqual(renamed(names=sky.names, sky=other), sky)
        for names in permutations(("a", "b")):
            self.assertEqual(renamed(Sky(TALK), names).names, names)

    def test_texts(self):
        sky = Sky("sky\nship d 0 0 2\nfly 5\nship e 3 -3 1\nuntil left p")
        self.assertEqual(seen_sky(sky, (3, 2)).text, "sky\nship d 0 0 4/3\nfly 5\nship e 2 -9/2 2/3\nuntil left p")
        self.assertEqual(shifted_sky(sky, event("1/2", 3)).text, "sky\nship d 1/2 3 2\nfly 5\nship e 7/2 0 1\nuntil left p")
        self.assertEqual(mirrored_sky(sky).text, "sky\nship d 0 0 1/2\nfly 5\nship e -3 3 1\nuntil right p")
        self.assertEqual(renamed(sky, ("e", "d")).text, "sky\nship e 0 0 2\nfly 5\nship d 3 -3 1\nuntil left p")

    def test_errors(self):
        for value in no_paces():
            self.assert_told(BadPace, value, seen_sky, Sky(TALK), value)
        for value in no_events():
            self.assert_told(BadEvent, value, shifted_sky, Sky(TALK), value)

    def test_names_of_others(self):
        values = no_fractions() + [(), ("a",), ("a", "b", "c"), ("a", "a"), ["a", "b"], {"a": 1, "b": 2}, "ab", ("b", "b")]
        values += [("a", value) for value in no_names()] + [(value, "a") for value in no_names()]
        for value in values:
            self.assert_told(BadNames, value, renamed, Sky(TALK), value)


if __name__ == "__main__":
    unittest.main()
