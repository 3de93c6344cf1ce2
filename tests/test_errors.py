import unittest

from crewclocks import errors
from crewclocks.errors import CrewError
from helpers import no_fractions

NAMES = (
    "BadEvent BadPace NotAhead BadFlight BadTime BadSide BadFactor BadMany BadModulus BadSky NoName "
    "BadNames BadEdit OtherNames BadRun BadBook BadLine NoSaying Wide NoPaces NotFit BadMoment BadPlane "
    "Apart BadMost Beyond BadOpen BadFactors NoEcho BadNumber Leans NothingToUndo NothingToRedo NoTrial "
    "BadJournal BadWords").split()


class Errors(unittest.TestCase):
    def test_every_error_is_listed_and_no_other_one(self):
        found = [name for name, thing in vars(errors).items() if isinstance(thing, type)]
        self.assertEqual(sorted(found), sorted(NAMES + ["CrewError"]))
        self.assertEqual(len(set(NAMES)), 36)

    def test_each_error_is_directly_below_crew_error(self):
        for name in NAMES:
            self.assertEqual(getattr(errors, name).__bases__, (CrewError,), name)
            self.assertEqual(getattr(errors, name).__name__, name)
        self.assertEqual(CrewError.__bases__, (ValueError,))

    def test_each_error_is_defined_in_its_file(self):
        for name in NAMES + ["CrewError"]:
            self.assertEqual(getattr(errors, name).__module__, "crewclocks.errors")

    def test_each_error_keeps_its_very_value(self):
        for name in NAMES + ["CrewError"]:
            for value in no_fractions() + [(1, 2), [[1], {}], "BadPace"]:
                error = getattr(errors, name)(value)
                self.assertIs(error.value, value, name)
                self.assertIs(type(error), getattr(errors, name))

    def test_values_are_not_changed(self):
        value = [1, [2], {"a": [3]}]
        self.assertIs(errors.BadPace(value).value, value)
        self.assertEqual(value, [1, [2], {"a": [3]}])

    def test_each_error_is_caught_as_crew_error_and_as_value_error(self):
        for name in NAMES:
            for kind in (CrewError, ValueError):
                with self.assertRaises(kind) as caught:
                    raise getattr(errors, name)((name, 1))
                self.assertEqual(caught.exception.value, (name, 1))

    def test_no_error_is_caught_as_another_one(self):
        for name in NAMES:
            for other in NAMES:
                self.assertEqual(isinstance(getattr(errors, name)(0), getattr(errors, other)), name == other)

    def test_one_argument_alone_is_taken(self):
        for name in NAMES + ["CrewError"]:
            with self.assertRaises(TypeError):
                getattr(errors, name)(1, 2)


if __name__ == "__main__":
    unittest.main()
