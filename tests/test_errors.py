import unittest

from stepnames import errors

LEAVES = [errors.BadSum, errors.BadSteps, errors.NoName, errors.NoMore, errors.NoSum, errors.BadText]


class TestErrors(unittest.TestCase):
    def test_each_refusal_is_a_step_error_and_a_value_error(self):
        self.assertTrue(issubclass(errors.StepError, ValueError))
        for leaf in LEAVES:
            with self.subTest(leaf=leaf.__name__):
                self.assertTrue(issubclass(leaf, errors.StepError))
                self.assertTrue(issubclass(leaf, ValueError))

    def test_no_refusal_is_another_one(self):
        for one in LEAVES:
            for other in LEAVES:
                with self.subTest(one=one.__name__, other=other.__name__):
                    self.assertEqual(issubclass(one, other), one is other)

    def test_each_refusal_stands_straight_below_step_error(self):
        for leaf in LEAVES:
            self.assertEqual(leaf.__bases__, (errors.StepError,))
        self.assertEqual(errors.StepError.__bases__, (ValueError,))

    def test_each_refusal_is_defined_in_its_file(self):
        for leaf in LEAVES + [errors.StepError]:
            self.assertEqual(leaf.__module__, "stepnames.errors")

    def test_number_and_place_are_set_when_the_error_is_created(self):
        self.assertEqual(errors.BadSteps(0).number, 0)
        self.assertEqual(errors.BadSteps(200).number, 200)
        self.assertEqual(errors.BadText(0).place, 0)
        self.assertEqual(errors.BadText(7).place, 7)

    def test_only_those_with_a_value_have_it(self):
        for leaf in (errors.BadSum, errors.NoName, errors.NoMore, errors.NoSum):
            self.assertFalse(hasattr(leaf("why"), "number"))
            self.assertFalse(hasattr(leaf("why"), "place"))


if __name__ == "__main__":
    unittest.main()
