"""Point 1: what is handed in stays as it was, and what is told belongs to whoever has it."""

import unittest

from samples import BAD_STEPS, BAD_SUMS, tree
from stepnames.errors import BadSteps, BadSum, NoMore, NoName
from stepnames.steps import boxes, run
from stepnames.sums import has_effect, worth

PART = ("less", ("say", ("add", ("ask",), ("name", "a"))), ("say", ("times", ("ask",), ("name", "b"))))
STEPS = [(0, "ask"), (1, "name", "a"), (0, "add", 0, 1), (0, "say", 0), (1, "ask"), (2, "name", "b"),
         (1, "times", 1, 2), (1, "say", 1), (0, "less", 0, 1)]
NAMES = {"b": 30, "a": 20}
GIVEN = [5, 6, 7]
TOLD = (845, [25, 180], 2)


class TestHandedIn(unittest.TestCase):
    def setUp(self):
        self.names = dict(NAMES)
        self.given = list(GIVEN)
        self.steps = list(STEPS)

    def assert_as_it_was(self):
        self.assertEqual(list(self.names.items()), list(NAMES.items()))
        self.assertEqual(self.given, GIVEN)
        self.assertEqual(self.steps, STEPS)

    def test_what_is_handed_in_is_not_changed(self):
        self.assertEqual(worth(PART, self.names, self.given), TOLD)
        self.assert_as_it_was()
        self.assertEqual(run(self.steps, self.names, self.given), TOLD)
        self.assert_as_it_was()
        self.assertEqual(boxes(self.steps), 3)
        self.assert_as_it_was()
        self.assertIs(has_effect(PART), True)

    def test_refusals_change_nothing_either(self):
        for bad in BAD_SUMS:
            with self.assertRaises(BadSum):
                worth(("add", ("say", ("ask",)), bad), self.names, self.given)
            self.assert_as_it_was()
        for refusal, letter, given in ((NoName, "c", [5, 6, 7]), (NoMore, "a", [])):
            with self.assertRaises(refusal):
                worth(("add", ("say", ("ask",)), ("name", letter)), self.names, given)
            with self.assertRaises(refusal):
                run([(0, "ask"), (0, "say", 0), (1, "name", letter)], self.names, given)
            self.assertEqual(given, [] if refusal is NoMore else GIVEN)
            self.assert_as_it_was()
        for bad in BAD_STEPS:
            steps = [(0, "ask"), (1, "ask"), bad]
            with self.assertRaises(BadSteps):
                run(steps, self.names, self.given)
            with self.assertRaises(BadSteps):
                boxes(steps)
            self.assertEqual(steps, [(0, "ask"), (1, "ask"), bad])
            self.assert_as_it_was()

    def test_a_told_list_may_be_changed(self):
        for tell in (lambda: worth(PART, self.names, self.given),
                     lambda: run(self.steps, self.names, self.given)):
            told = tell()
            told[1].append(1)
            told[1][0] = 77
            self.assertEqual(tell(), TOLD)
            told[1].clear()
            self.assertEqual(tell(), TOLD)
            self.assert_as_it_was()

    def test_two_calls_share_nothing(self):
        first = worth(PART, self.names, self.given)
        second = worth(PART, self.names, self.given)
        third = run(self.steps, self.names, self.given)
        fourth = run(self.steps, self.names, self.given)
        said = [first[1], second[1], third[1], fourth[1]]
        for at, one in enumerate(said):
            for other in said[:at]:
                self.assertIsNot(one, other)
        first[1].append(1)
        third[1].append(1)
        self.assertEqual((second, fourth), (TOLD, TOLD))

    def test_a_told_list_is_not_a_list_handed_in(self):
        part = ("say", ("ask",))
        for told in (worth(part, {}, self.given[:1]), run([(0, "ask"), (0, "say", 0)], {}, self.given[:1])):
            self.assertEqual(told, (5, [5], 1))
        given = []
        self.assertIsNot(worth(("num", 1), {}, given)[1], given)
        self.assertIsNot(run([(0, "num", 1)], {}, given)[1], given)
        worth(("num", 1), {}, given)[1].append(3)
        run([(0, "num", 1)], {}, given)[1].append(3)
        self.assertEqual(given, [])

    def test_what_is_handed_in_may_be_changed_later(self):
        of_sum = worth(PART, self.names, self.given)
        of_steps = run(self.steps, self.names, self.given)
        self.names["a"] = 0
        self.given[0] = 900
        del self.steps[-1]
        self.assertEqual((of_sum, of_steps), (TOLD, TOLD))
        changed = (720, [900, 180], 2)
        self.assertEqual(worth(PART, self.names, self.given), changed)
        self.assertEqual(run(STEPS, self.names, self.given), changed)
        self.assertEqual(run(self.steps, self.names, self.given), (180, [900, 180], 2))
        self.steps[0] = (7, "ask")
        with self.assertRaises(BadSteps):
            boxes(self.steps)

    def test_a_call_knows_nothing_of_the_one_before(self):
        self.assertEqual(worth(("ask",), {}, [1, 2]), (1, [], 1))
        self.assertEqual(worth(("ask",), {}, [1, 2]), (1, [], 1))
        self.assertEqual(run([(0, "ask")], {}, [1, 2]), (1, [], 1))
        self.assertEqual(run([(0, "ask")], {}, [1, 2]), (1, [], 1))
        with self.assertRaises(BadSteps) as caught:
            run([(1, "say", 0)], {}, [])
        self.assertEqual(caught.exception.number, 0)
        with self.assertRaises(NoName):
            worth(("name", "a"), {}, [])
        for _ in range(3):
            self.assertEqual(len(worth(tree(60), {}, [])), 3)
            self.assertEqual(len(run([(0, "num", 1)] * 200, {}, [])), 3)


if __name__ == "__main__":
    unittest.main()
