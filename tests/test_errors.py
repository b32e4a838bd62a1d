"""The errors of the interface, and the general rules that are seen on them."""

import samewords.errors as errors
from tests.helper import Case

WITH_VALUE = """BadName BadWidth BadNumber BadBound BadFormula BadValue BadPick BadEnds BadTable BadProgram BadText
BadClass BadValues BadWants BadOrder BadPlace BadCount BadCode BadOuts BadPass BadPasses BadSteps NoFormula Unlike
NotPlain HasSum Unreadable UnlikeRest NoCode""".split()
WITHOUT = "TooMany TooLong Finished NothingDone".split()


class Errors(Case):
    def test_base(self):
        self.assertEqual(errors.SameError.__bases__, (ValueError,))

    def test_all_stand_directly_below(self):
        for name in WITH_VALUE + WITHOUT:
            self.assertEqual(getattr(errors, name).__bases__, (errors.SameError,), name)
            self.assertEqual(getattr(errors, name).__module__, "samewords.errors")

    def test_value_is_what_was_handed_in(self):
        for name in WITH_VALUE:
            for value in (None, True, 3, 10 ** 5000, "x", [1], (1, 2), {"x": 1}):
                error = getattr(errors, name)(value)
                self.assertIs(error.value, value)
                self.assertIsInstance(str(error), str)

    def test_without_an_argument_the_value_is_none(self):
        for name in WITHOUT:
            self.assertIsNone(getattr(errors, name)().value)
