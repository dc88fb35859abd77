import unittest

from stepnames import errors
from stepnames.back import put_back
from stepnames.cutting import cut, once, tight
from stepnames.least import least
from stepnames.notes import read_sum, written
from stepnames.steps import boxes, run
from stepnames.sums import has_effect, worth

LEAVES = [errors.BadSum, errors.BadSteps, errors.NoName, errors.NoMore, errors.NoSum, errors.BadText]

NO_SUM = ("say", ("num", 1000))
NO_STEPS = [(0, "num", 1), (0, "say", 1)]
REFUSED = [
    (errors.BadSum, lambda: worth(NO_SUM, {}, [])), (errors.BadSum, lambda: has_effect(NO_SUM)),
    (errors.BadSum, lambda: cut(NO_SUM)), (errors.BadSum, lambda: tight(NO_SUM)),
    (errors.BadSum, lambda: once(NO_SUM)), (errors.BadSum, lambda: least(NO_SUM)),
    (errors.BadSum, lambda: written(NO_SUM)), (errors.BadSum, lambda: read_sum("say " * 15 + "ask")),
    (errors.BadSteps, lambda: run(NO_STEPS, {}, [])), (errors.BadSteps, lambda: boxes(NO_STEPS)),
    (errors.BadSteps, lambda: put_back(NO_STEPS)),
    (errors.NoName, lambda: worth(("name", "a"), {}, [])), (errors.NoName, lambda: run([(0, "name", "a")], {}, [])),
    (errors.NoMore, lambda: worth(("ask",), {}, [])), (errors.NoMore, lambda: run([(0, "ask")], {}, [])),
    (errors.NoSum, lambda: put_back([(0, "num", 1), (1, "num", 1)])),
    (errors.NoSum, lambda: put_back([(0, "num", 1), (0, "add", 0, 0)])),
    (errors.NoSum, lambda: put_back([(0, "num", 1), (0, "num", 1), (1, "say", 0)])),
    (errors.NoSum, lambda: put_back([(0, "ask"), (1, "ask"), (2, "add", 1, 0)])),
    (errors.NoSum, lambda: put_back([(0, "num", 1)] + [(0, "say", 0)] * 15)),
    (errors.BadText, lambda: read_sum("say g")), (errors.BadText, lambda: read_sum("say")),
    (errors.BadText, lambda: read_sum("ask ask")),
]


class TestErrors(unittest.TestCase):
    def test_each_refusal_is_a_step_error_and_a_value_error(self):
        self.assertTrue(issubclass(errors.StepError, ValueError))
        for leaf in LEAVES:
            with self.subTest(leaf=leaf.__name__):
                self.assertTrue(issubclass(leaf, errors.StepError))
                self.assertTrue(issubclass(leaf, ValueError))

    def test_no_refusal_is_another_one(self):
        for one in LEAVES:
            for other in LEAVES:
                with self.subTest(one=one.__name__, other=other.__name__):
                    self.assertEqual(issubclass(one, other), one is other)

    def test_each_refusal_stands_straight_below_step_error(self):
        for leaf in LEAVES:
            self.assertEqual(leaf.__bases__, (errors.StepError,))
        self.assertEqual(errors.StepError.__bases__, (ValueError,))

    def test_each_refusal_is_defined_in_its_file(self):
        for leaf in LEAVES + [errors.StepError]:
            self.assertEqual(leaf.__module__, "stepnames.errors")

    def test_what_is_refused_is_of_just_one_class(self):
        for leaf, refused in REFUSED:
            with self.assertRaises(errors.StepError) as caught:
                refused()
            self.assertIs(type(caught.exception), leaf)
            self.assertIsInstance(caught.exception, ValueError)

    def test_number_and_place_of_what_is_refused_are_numbers(self):
        for leaf, name in ((errors.BadSteps, "number"), (errors.BadText, "place")):
            for refusal, refused in REFUSED:
                if refusal is leaf:
                    with self.assertRaises(leaf) as caught:
                        refused()
                    self.assertIs(type(getattr(caught.exception, name)), int)
                    self.assertEqual(getattr(caught.exception, name), 1)

    def test_number_and_place_are_set_are_set_when_the_error_is_created(self):
        self.assertEqual(errors.BadSteps(0).number, 0)
        self.assertEqual(errors.BadSteps(200).number, 200)
        self.assertEqual(errors.BadText(0).place, 0)
        self.assertEqual(errors.BadText(7).place, 7)

    def test_only_those_with_a_value_have_it(self):
        for leaf in (errors.BadSum, errors.NoName, errors.NoMore, errors.NoSum):
            self.assertFalse(hasattr(leaf("why"), "number"))
            self.assertFalse(hasattr(leaf("why"), "place"))


if __name__ == "__main__":
    unittest.main()
