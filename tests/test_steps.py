import unittest

from samples import BAD_STEPS, counting_steps
from stepnames import steps as steps_file
from stepnames.errors import BadSteps, NoMore, NoName
from stepnames.steps import boxes, run

LETTERS = {letter: 1 for letter in "abcdef"}
FILLED = [(0, "num", 8), (1, "num", 5)]


class TestWhichAreSteps(unittest.TestCase):
    def assert_steps(self, steps):
        self.assertEqual(len(run(steps, LETTERS, [1] * 200)), 3)
        self.assertGreater(boxes(steps), 0)

    def assert_bad(self, steps, number):
        with self.subTest(steps=steps[:10]):
            with self.assertRaises(BadSteps) as caught:
                run(steps, LETTERS, [1] * 300)
            self.assertEqual(caught.exception.number, number)
            with self.assertRaises(BadSteps) as caught:
                boxes(steps)
            self.assertEqual(caught.exception.number, number)

    def test_each_kind(self):
        for step in ((5, "num", 0), (5, "num", 999), (5, "add", 0, 1), (5, "less", 1, 0),
                     (5, "times", 1, 1), (5, "say", 0), (5, "ask"), (1, "say", 1), (0, "add", 0, 0)):
            self.assert_steps(FILLED + [step])
        for letter in "abcdef":
            self.assert_steps([(5, "name", letter)])

    def test_boxes_from_0_to_199(self):
        for box in (0, 1, 198, 199):
            self.assert_steps([(box, "num", 3), (box, "say", box), (7, "add", box, box)])
        for box in (-1, -199, 200, 201, 10 ** 29):
            self.assert_bad([(box, "num", 3)], 0)
            self.assert_bad([(0, "num", 3), (box, "say", 0)], 1)
            self.assert_bad([(0, "num", 3), (1, "say", box)], 1)

    def test_steps_that_cannot_be(self):
        for bad in BAD_STEPS:
            self.assert_bad(FILLED + [bad], 2)
            self.assert_bad(FILLED + [bad, (3, "num", 1)], 2)
            self.assert_bad(FILLED + [(4, "ask"), (4, "say", 4), bad], 4)

    def test_the_first_step_reads_nothing(self):
        for step in ((0, "add", 0, 0), (0, "less", 1, 2), (0, "times", 0, 0), (0, "say", 0), (), ("ask",)):
            self.assert_bad([step], 0)

    def test_a_box_read_ahead_of_its_step(self):
        self.assert_bad([(0, "num", 1), (1, "say", 2), (2, "num", 1)], 1)
        self.assert_bad([(0, "num", 1), (1, "add", 0, 1)], 1)
        self.assert_bad([(0, "num", 1), (1, "add", 1, 0)], 1)

    def test_none_at_all(self):
        self.assert_bad([], 0)

    def test_one_to_200_steps(self):
        self.assert_steps(counting_steps(1))
        self.assert_steps(counting_steps(199))
        self.assert_steps(counting_steps(200))
        self.assert_bad(counting_steps(201), 200)
        self.assert_bad(counting_steps(202), 200)
        self.assert_bad(counting_steps(1000), 200)

    def test_number_is_that_of_the_first_that_cannot_be(self):
        bad = (0, "sub", 0, 0)
        self.assert_bad([bad, bad, bad], 0)
        self.assert_bad(FILLED + [bad, (), (1, "num", 1000)], 2)
        self.assert_bad(FILLED + [(), (5, "ask"), (200, "ask")], 2)
        self.assert_bad(counting_steps(199) + [bad], 199)
        self.assert_bad(counting_steps(200) + [bad], 200)
        self.assert_bad(counting_steps(7) + [bad] + counting_steps(193), 7)
        self.assert_bad(counting_steps(199) + [bad] + counting_steps(5), 199)
        self.assert_bad([bad] + counting_steps(200), 0)

    def test_a_step_behind_a_bad_one_is_not_looked_at(self):
        self.assert_bad([(0, "num", 1), (1, "num", 1000), (2, "add", 0, 1)], 1)


class TestRun(unittest.TestCase):
    def assert_run(self, steps, number, said=(), asked=0, names=None, given=()):
        told = run(steps, names or {}, list(given))
        self.assertEqual(told, (number, list(said), asked))

    def test_interface(self):
        self.assertEqual(run(steps=[(0, "name", "a")], names={"a": 4}, given=[]), (4, [], 0))
        self.assertEqual(boxes(steps=[(0, "num", 1)]), 1)
        self.assertEqual(steps_file.run.__module__, "stepnames.steps")
        self.assertEqual(steps_file.boxes.__module__, "stepnames.steps")

    def test_kinds_of_what_is_told(self):
        told = run([(0, "ask"), (0, "say", 0)], {}, [5])
        self.assertIs(type(told), tuple)
        self.assertEqual([type(one) for one in told], [int, list, int])
        self.assertIs(type(boxes([(0, "ask")])), int)

    def test_each_kind_of_step(self):
        self.assert_run([(3, "num", 0)], 0)
        self.assert_run([(3, "num", 999)], 999)
        self.assert_run([(3, "name", "f")], 12, names={"a": 1, "f": 12})
        self.assert_run([(3, "ask")], 6, asked=1, given=[6, 7])
        self.assert_run(FILLED + [(2, "add", 0, 1)], 13)
        self.assert_run(FILLED + [(2, "less", 0, 1)], 3)
        self.assert_run(FILLED + [(2, "less", 1, 0)], 997)
        self.assert_run(FILLED + [(2, "times", 0, 1)], 40)
        self.assert_run(FILLED + [(2, "say", 1)], 5, said=[5])

    def test_the_rest_by_1000(self):
        high = [(0, "num", 999), (1, "num", 998)]
        self.assert_run(high + [(2, "add", 0, 1)], 997)
        self.assert_run(high + [(2, "times", 0, 1)], 2)
        self.assert_run(high + [(2, "less", 1, 0), (3, "say", 2)], 999, said=[999])
        self.assert_run(high + [(2, "times", 0, 0), (3, "say", 2), (3, "add", 2, 0)], 0, said=[1])

    def test_what_was_put_last_is_meant(self):
        self.assert_run([(0, "num", 1), (1, "num", 2), (0, "num", 5), (2, "less", 0, 1)], 3)
        self.assert_run([(0, "num", 3), (0, "add", 0, 0), (0, "times", 0, 0)], 36)
        self.assert_run([(0, "num", 3), (1, "say", 0), (0, "num", 4), (1, "say", 0), (2, "add", 1, 0)],
                        8, said=[3, 4])
        self.assert_run([(0, "ask"), (0, "ask"), (0, "say", 0)], 2, said=[2], asked=2, given=[1, 2])

    def test_the_last_step_tells_the_worth(self):
        self.assert_run([(7, "num", 1), (3, "num", 2)], 2)
        self.assert_run([(3, "num", 1), (7, "num", 2), (3, "num", 4)], 4)
        self.assert_run([(0, "num", 1), (199, "num", 2), (5, "say", 0)], 1, said=[1])
        self.assert_run([(0, "num", 1), (1, "ask")], 9, asked=1, given=[9])

    def test_effects_come_in_the_order_of_the_steps(self):
        self.assert_run([(0, "num", 1), (1, "num", 2), (2, "say", 1), (3, "say", 0), (4, "less", 3, 2)],
                        999, said=[2, 1])
        self.assert_run([(0, "ask"), (1, "ask"), (2, "less", 1, 0)], 8, asked=2, given=[1, 9])
        self.assert_run([(0, "ask"), (1, "ask"), (2, "less", 0, 1)], 992, asked=2, given=[1, 9])
        self.assert_run([(0, "ask"), (0, "say", 0), (1, "ask"), (1, "say", 1), (0, "say", 0)],
                        4, said=[4, 6, 4], asked=2, given=[4, 6, 8])

    def test_effects_of_steps_that_nothing_reads(self):
        self.assert_run([(0, "num", 7), (1, "say", 0), (2, "ask"), (2, "num", 3)],
                        3, said=[7], asked=1, given=[5])

    def test_asked_counts_the_asks_and_not_the_given(self):
        for given in ([4, 5], [4, 5, 6], list(range(4, 50))):
            self.assert_run([(0, "ask"), (1, "ask")], 5, asked=2, given=given)
        self.assert_run([(0, "num", 1)], 1, given=[4])

    def test_200_steps(self):
        steps = [(0, "num", 1)] + [(0, "add", 0, 0)] * 199
        self.assert_run(steps, 2 ** 199 % 1000)
        self.assert_run([(0, "ask")] * 200, 199, asked=200, given=range(200))
        self.assert_run([(at, "num", at) for at in range(200)], 199)

    def test_names_and_given_somewhat_beyond_their_limits_are_no_error(self):
        self.assert_run([(0, "name", "a"), (1, "ask"), (2, "add", 0, 1)], 999,
                        asked=1, names={"a": 1000, "g": 1}, given=[-1])


class TestRefusalsOfRun(unittest.TestCase):
    def test_a_name_that_lacks_in_any_place(self):
        for at in range(5):
            steps = [(9, "num", 3)] * 5
            steps[at] = (9, "name", "b")
            for names in ({}, {"a": 1}):
                with self.assertRaises(NoName):
                    run(steps, names, [])
            self.assertEqual(len(run(steps, {"b": 0}, [])), 3)

    def test_more_asks_than_given(self):
        steps = [(0, "ask"), (0, "ask"), (0, "num", 1), (0, "ask")]
        for given in ([], [1], [1, 2]):
            with self.assertRaises(NoMore):
                run(steps, {}, given)
        self.assertEqual(run(steps, {}, [1, 2, 3]), (3, [], 3))

    def test_no_name_goes_ahead_of_no_more(self):
        for steps in ([(0, "ask"), (1, "name", "a")], [(0, "name", "a"), (1, "ask")]):
            with self.assertRaises(NoName):
                run(steps, {}, [])
            with self.assertRaises(NoMore):
                run(steps, {"a": 1}, [])

    def test_bad_steps_go_ahead_of_all(self):
        lacking = [(0, "ask"), (1, "name", "a")]
        for bad in BAD_STEPS:
            with self.assertRaises(BadSteps) as caught:
                run(lacking + [bad], {}, [])
            self.assertEqual(caught.exception.number, 2)
        with self.assertRaises(BadSteps) as caught:
            run([(0, "name", "a")] * 201, {}, [])
        self.assertEqual(caught.exception.number, 200)
        with self.assertRaises(BadSteps):
            run([(0, "ask")] * 201, {}, [])
        with self.assertRaises(BadSteps):
            run([], {}, [])


class TestBoxes(unittest.TestCase):
    def test_unlike_boxes(self):
        self.assertEqual(boxes([(0, "num", 1)]), 1)
        self.assertEqual(boxes([(199, "num", 1)]), 1)
        self.assertEqual(boxes([(0, "num", 1), (199, "num", 1)]), 2)
        self.assertEqual(boxes([(4, "num", 1), (4, "say", 4), (4, "add", 4, 4)]), 1)
        self.assertEqual(boxes([(4, "num", 1), (2, "num", 1), (4, "say", 2), (0, "less", 2, 4)]), 3)

    def test_all_boxes(self):
        self.assertEqual(boxes([(at, "ask") for at in range(200)]), 200)
        self.assertEqual(boxes([(at % 50, "ask") for at in range(200)]), 50)

    def test_names_and_asks_are_no_matter(self):
        self.assertEqual(boxes([(0, "name", "a"), (1, "ask")]), 2)


if __name__ == "__main__":
    unittest.main()
