"""What the document promises over the whole program: equal calls, arguments by position and by name, errors."""

import importlib
import inspect
import unittest
from random import Random

from benches import TALK
from crewclocks import errors
from crewclocks.bench import Bench
from crewclocks.books import Book
from crewclocks.desk import Desk
from crewclocks.errors import CrewError
from crewclocks.flights import Flight
from crewclocks.runs import run
from crewclocks.skies import Sky
from crewclocks.unknown import Open
from helpers import Lone, deep, event
from test_interface import FUNCTIONS

TWO = "sky\nship a 0 0 1\nfly 1\nflash x\nfly 4\nship b 1 -1 1\nuntil left x\nflash y\nfly 1"
BOOK = "book\nship a\nship b\nfelt a 2 3/2\nheard b 2 left a 1 1\npassed a 0 b 0 1"
FREE = "book\nship a\nship b\nheard b 1 left a 1 1"
PLAN = "open 0 0\nfly 2\nturn a\nfly 1\nback a\nfly 3"


def good():
    """A value for each parameter of each function, by its name, made anew."""
    a, b = ("a", (0, 1)), ("b", (1, 1))
    flight, sky, book = Flight("flight 0 0 1\nfly 4\nturn 2\nfly 9"), Sky(TWO), Book(FREE)
    bench = Bench(TALK)
    bench.gather()
    common = {
        "event": event(6, 3), "pace": (2, 1), "by": event(1, 2), "time": (1, 1), "flight": flight, "side": "left", "sender": (2, 1), "hearer": (1, 2),
        "factor": (3, 2), "many": 2, "modulus": 7, "sky": sky, "name": "a", "names": ("p", "q"), "edit": ("add", "a", 1, "turn 2"), "told": run(sky), "book": book,
        "line": "heard b 2 left a 2 1", "number": 0, "plane": "u", "most": (2, 1), "own": (4, 1), "hold": (3, 1), "wait": (11, 1), "plan": Open(PLAN),
        "factors": ((2, 1),) * 6, "bench": bench, "text": "bench\n" + TALK + "\ngather", "value": ("same",), "one": event(0, 0), "other": event(5, 5)}
    pairs = {"flights": (flight, Flight("flight 6 -2 1\nfly 20")), "changes": (sky, Sky(TALK)), "gaps": (a, b), "alike": (sky, Sky(TWO.replace("1 -1 1", "2 -1 1"))),
             "unknown": (Open(PLAN), Open("open 0 0\nturn a\nfly 1")), "setting": (flight, Flight("flight 6 -2 1\nfly 20"))}
    return common, pairs


def odd(chance):
    """Any value, made anew; most are wrong wherever they stand."""
    return chance.choice([
        lambda: None, lambda: True, lambda: 0, lambda: -3, lambda: "", lambda: "a", lambda: "zz", lambda: "left", lambda: (), lambda: (1, 1), lambda: (2, 4),
        lambda: [1, 1], lambda: {"a": [1]}, lambda: deep(29), lambda: Sky(TWO), lambda: Flight("flight 0 0 1"), lambda: Book(BOOK), lambda: Open(PLAN),
        lambda: Bench(TALK), lambda: event(-1, 2), lambda: ((0, 1), [0, 1]), lambda: "sky\n", lambda: CrewError, lambda: ("plan", ()), lambda: ("drop", "a", 0)])()


# Parameters that get Skies, Books, Flights, Open flights, benches alone.
FIXED = ("sky", "book", "flight", "bench", "plan")


def is_free(module, name):
    return name not in FIXED and not (name in ("one", "other") and module in ("flights", "changes", "alike", "unknown", "setting"))


def arguments(module, parameters, seed):
    """The arguments of a call, made anew: seed 0 gives good ones, others put odd ones in the place of some."""
    common, pairs = good()
    one, other = pairs.get(module, (common["one"], common["other"]))
    made, chance = {}, Random(seed)
    for name in parameters:
        made[name] = one if name == "one" else other if name == "other" else common[name]
        if seed and is_free(module, name) and chance.random() < 0.5:
            made[name] = odd(chance)
    return made


def outcome(call, *args, **named):
    try:
        return "told", call(*args, **named)
    except CrewError as error:
        return type(error).__name__, error.value


def shape(value):
    """A value as texts and plain values, by which objects made apart can be compared."""
    if isinstance(value, (tuple, list)):
        return type(value).__name__, [shape(part) for part in value]
    if isinstance(value, dict):
        return [(shape(key), shape(part)) for key, part in value.items()]
    if isinstance(value, Bench):
        return "bench", value.journal(), value.done, shape(value.sky), shape(value.book)
    if isinstance(value, (Sky, Book, Flight, Open)):
        return type(value).__name__, value.text, len(value), [shape(getattr(value, name)) for name in sorted(vars(value)) if name not in ("text",)]
    return type(value).__name__, value


def calls():
    return [(module, name, parameters) for module, functions in FUNCTIONS.items() for name, parameters in functions.items()]


class Calls(unittest.TestCase):
    def test_each_function_by_position_and_by_name_again_and_again(self):
        told = {}
        for seed in range(12):
            for module, name, parameters in calls():
                call = getattr(importlib.import_module(f"crewclocks.{module}"), name)
                args = arguments(module, parameters, seed)
                before = shape(args)
                found = outcome(call, *[args[parameter] for parameter in parameters])
                self.assertEqual(shape(args), before, name)
                told[seed, module, name] = shape(found)
                if seed == 0:
                    self.assertEqual(found[0], "told", name)
        # Others have come in between; objects are made apart, and the sequence is another one.
        for seed in reversed(range(12)):
            for module, name, parameters in reversed(calls()):
                call = getattr(importlib.import_module(f"crewclocks.{module}"), name)
                args = arguments(module, parameters, seed)
                named = {parameter: args[parameter] for parameter in reversed(parameters)}
                for _ in range(2):
                    self.assertEqual(shape(outcome(call, **named)), told[seed, module, name], name)

    def test_errors_keep_the_very_value(self):
        many = 0
        for seed in range(1, 40):
            for module, name, parameters in calls():
                call = getattr(importlib.import_module(f"crewclocks.{module}"), name)
                args = arguments(module, parameters, seed)
                try:
                    call(**args)
                except CrewError as error:
                    if type(error).__name__ in ("BadEvent", "BadPace", "BadTime", "BadSide", "BadMost", "BadPlane", "BadMoment", "BadFactor", "BadMany",
                                                "BadModulus", "BadNames", "BadEdit", "BadRun", "BadLine", "NoName", "NoSaying", "BadFactors"):
                        self.assertTrue(any(error.value is value for value in args.values()), name)
                        many += 1
        self.assertGreater(many, 300)

    def test_shows_functions_tell_bools_of_any_value(self):
        found = 0
        for module, name, parameters in calls():
            if name.startswith("shows_") or name == "is_placing":
                call = getattr(importlib.import_module(f"crewclocks.{module}"), name)
                for seed in range(40):
                    args = arguments(module, parameters, 0)
                    args["value"] = odd(Random(seed))
                    self.assertIs(type(call(**args)), bool)
                    found += 1
        self.assertGreater(found, 300)

    def test_what_is_told_is_shown(self):
        shown = 0
        for module, name, parameters in calls():
            if name.startswith("shows_"):
                files = importlib.import_module(f"crewclocks.{module}")
                args = arguments(module, parameters, 0)
                value = getattr(files, name[6:])(**{parameter: args[parameter] for parameter in parameters[:-1]})
                args["value"] = value
                self.assertIs(getattr(files, name)(**args), True, name)
                shown += 1
        self.assertEqual(shown, 10)

    def test_sequences_that_are_told_are_tuples(self):
        for module, name, parameters in calls():
            call = getattr(importlib.import_module(f"crewclocks.{module}"), name)
            self.assert_no_list(call(**arguments(module, parameters, 0)), name)

    def assert_no_list(self, value, name):
        self.assertNotIsInstance(value, (list, set, dict, float), name)
        if isinstance(value, tuple):
            for part in value:
                self.assert_no_list(part, name)


class Objects(unittest.TestCase):
    TEXTS = ((Flight, "flight 0 0 1\nfly 1", "flight 0 0 1"), (Sky, TWO, TALK), (Book, BOOK, FREE), (Open, PLAN, "open 0 0"))

    def test_equal_by_their_texts_and_nothing_else(self):
        made = [kind(text) for kind, *texts in self.TEXTS for text in texts] + [Bench(TALK), Bench(TWO)]
        again = [kind(text) for kind, *texts in self.TEXTS for text in texts] + [Bench(TALK), Bench(TWO)]
        for k, one in enumerate(made):
            for j, other in enumerate(again):
                self.assertIs(one == other, k == j)
                self.assertIs(one != other, k != j)
            for value in [None, True, 0, getattr(one, "text", ""), [one], (one,), {"text": one}, Lone(), CrewError(one), type(one)]:
                self.assertIs(one == value, False)
                self.assertIs(value == one, False)

    def test_texts_are_passed_by_name(self):
        for kind, *texts in self.TEXTS:
            for text in texts:
                self.assertEqual(kind(text=text), kind(text))
        self.assertEqual(Bench(text=TALK), Bench(TALK))
        self.assertEqual(Desk(text="bench\n" + TALK).bench, Bench(TALK))

    def test_a_desk_equals_itself_alone(self):
        one, other = Desk("bench\n" + TALK), Desk("bench\n" + TALK)
        self.assertTrue(one == one)
        self.assertEqual(one.bench, other.bench)
        one.say("gather")
        self.assertNotEqual(one.bench, other.bench)


class Errors(unittest.TestCase):
    def kinds(self):
        return [kind for _, kind in inspect.getmembers(errors, inspect.isclass)]

    def test_directly_below_crew_error(self):
        self.assertEqual(len(self.kinds()), 37)
        for kind in self.kinds():
            self.assertEqual(kind.__bases__, (ValueError,) if kind is CrewError else (CrewError,))

    def test_each_keeps_any_value(self):
        bench = Bench(TALK)
        for kind in self.kinds():
            for value in (None, True, 0, -1, "", "a\nb", (), (1, 1), [1, [2]], {"a": ()}, deep(29), Sky(TWO), Flight("flight 0 0 1"), Book(BOOK), Open(PLAN), bench,
                          Desk("bench\n" + TALK), kind, kind(1), 10 ** 30):
                self.assertIs(kind(value).value, value)


if __name__ == "__main__":
    unittest.main()
