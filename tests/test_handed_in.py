"""Point 1: what is handed in stays as it was, and what is told belongs to whoever has it."""

import unittest

from samples import BAD_STEPS, BAD_SUMS, tree
from stepnames.back import put_back
from stepnames.cutting import cut, once, tight
from stepnames.errors import BadSteps, BadSum, BadText, NoMore, NoName, NoSum
from stepnames.least import least
from stepnames.notes import read_sum, written
from stepnames.steps import boxes, run
from stepnames.sums import has_effect, worth

PART = ("less", ("say", ("add", ("ask",), ("name", "a"))), ("say", ("times", ("ask",), ("name", "b"))))
STEPS = [(0, "ask"), (1, "name", "a"), (0, "add", 0, 1), (0, "say", 0), (1, "ask"), (2, "name", "b"),
         (1, "times", 1, 2), (1, "say", 1), (0, "less", 0, 1)]
NAMES = {"b": 30, "a": 20}
GIVEN = [5, 6, 7]
TOLD = (845, [25, 180], 2)


class TestHandedIn(unittest.TestCase):
    def setUp(self):
        self.names = dict(NAMES)
        self.given = list(GIVEN)
        self.steps = list(STEPS)

    def assert_as_it_was(self):
        self.assertEqual(list(self.names.items()), list(NAMES.items()))
        self.assertEqual(self.given, GIVEN)
        self.assertEqual(self.steps, STEPS)

    def test_what_is_handed_in_is_not_changed(self):
        self.assertEqual(worth(PART, self.names, self.given), TOLD)
        self.assert_as_it_was()
        self.assertEqual(run(self.steps, self.names, self.given), TOLD)
        self.assert_as_it_was()
        self.assertEqual(boxes(self.steps), 3)
        self.assert_as_it_was()
        self.assertIs(has_effect(PART), True)

    def test_refusals_change_nothing_either(self):
        for bad in BAD_SUMS:
            with self.assertRaises(BadSum):
                worth(("add", ("say", ("ask",)), bad), self.names, self.given)
            self.assert_as_it_was()
        for refusal, letter, given in ((NoName, "c", [5, 6, 7]), (NoMore, "a", [])):
            with self.assertRaises(refusal):
                worth(("add", ("say", ("ask",)), ("name", letter)), self.names, given)
            with self.assertRaises(refusal):
                run([(0, "ask"), (0, "say", 0), (1, "name", letter)], self.names, given)
            self.assertEqual(given, [] if refusal is NoMore else GIVEN)
            self.assert_as_it_was()
        for bad in BAD_STEPS:
            steps = [(0, "ask"), (1, "ask"), bad]
            with self.assertRaises(BadSteps):
                run(steps, self.names, self.given)
            with self.assertRaises(BadSteps):
                boxes(steps)
            self.assertEqual(steps, [(0, "ask"), (1, "ask"), bad])
            self.assert_as_it_was()

    def test_a_told_list_may_be_changed(self):
        for tell in (lambda: worth(PART, self.names, self.given),
                     lambda: run(self.steps, self.names, self.given)):
            told = tell()
            told[1].append(1)
            told[1][0] = 77
            self.assertEqual(tell(), TOLD)
            told[1].clear()
            self.assertEqual(tell(), TOLD)
            self.assert_as_it_was()

    def test_two_calls_share_nothing(self):
        first = worth(PART, self.names, self.given)
        second = worth(PART, self.names, self.given)
        third = run(self.steps, self.names, self.given)
        fourth = run(self.steps, self.names, self.given)
        said = [first[1], second[1], third[1], fourth[1]]
        for at, one in enumerate(said):
            for other in said[:at]:
                self.assertIsNot(one, other)
        first[1].append(1)
        third[1].append(1)
        self.assertEqual((second, fourth), (TOLD, TOLD))

    def test_a_told_list_is_not_a_list_handed_in(self):
        part = ("say", ("ask",))
        for told in (worth(part, {}, self.given[:1]), run([(0, "ask"), (0, "say", 0)], {}, self.given[:1])):
            self.assertEqual(told, (5, [5], 1))
        given = []
        self.assertIsNot(worth(("num", 1), {}, given)[1], given)
        self.assertIsNot(run([(0, "num", 1)], {}, given)[1], given)
        worth(("num", 1), {}, given)[1].append(3)
        run([(0, "num", 1)], {}, given)[1].append(3)
        self.assertEqual(given, [])

    def test_what_is_handed_in_may_be_changed_later(self):
        of_sum = worth(PART, self.names, self.given)
        of_steps = run(self.steps, self.names, self.given)
        self.names["a"] = 0
        self.given[0] = 900
        del self.steps[-1]
        self.assertEqual((of_sum, of_steps), (TOLD, TOLD))
        changed = (720, [900, 180], 2)
        self.assertEqual(worth(PART, self.names, self.given), changed)
        self.assertEqual(run(STEPS, self.names, self.given), changed)
        self.assertEqual(run(self.steps, self.names, self.given), (180, [900, 180], 2))
        self.steps[0] = (7, "ask")
        with self.assertRaises(BadSteps):
            boxes(self.steps)

    def test_a_call_knows_nothing_of_the_one_before(self):
        self.assertEqual(worth(("ask",), {}, [1, 2]), (1, [], 1))
        self.assertEqual(worth(("ask",), {}, [1, 2]), (1, [], 1))
        self.assertEqual(run([(0, "ask")], {}, [1, 2]), (1, [], 1))
        self.assertEqual(run([(0, "ask")], {}, [1, 2]), (1, [], 1))
        with self.assertRaises(BadSteps) as caught:
            run([(1, "say", 0)], {}, [])
        self.assertEqual(caught.exception.number, 0)
        with self.assertRaises(NoName):
            worth(("name", "a"), {}, [])
        for _ in range(3):
            self.assertEqual(len(worth(tree(60), {}, [])), 3)
            self.assertEqual(len(run([(0, "num", 1)] * 200, {}, [])), 3)


# What tells the steps of a sum.
TELLS = [cut, tight, once, lambda part: least(part)[1]]


class TestCutAndBack(unittest.TestCase):
    def test_a_told_list_may_be_changed(self):
        for tell in TELLS:
            first = tell(PART)
            kept = list(first)
            second = tell(PART)
            self.assertIsNot(first, second)
            first[0] = (7, "ask")
            first.append((0, "num", 1))
            del first[1]
            self.assertEqual(second, kept)
            self.assertEqual(tell(PART), kept)
            first.clear()
            self.assertEqual(tell(PART), kept)
            self.assertEqual(put_back(kept), PART)

    def test_steps_handed_in_are_not_changed(self):
        for tell in TELLS:
            steps = tell(PART)
            kept = list(steps)
            for _ in range(2):
                put_back(steps)
                self.assertEqual(steps, kept)

    def test_steps_handed_in_may_be_changed_later(self):
        steps = cut(PART)
        part = put_back(steps)
        steps[0] = (0, "num", 5)
        self.assertEqual(part, PART)
        changed = put_back(steps)
        self.assertEqual((changed[1][1][1], part[1][1][1]), (("num", 5), ("ask",)))
        del steps[-1]
        with self.assertRaises(NoSum):
            put_back(steps)
        del steps[0]
        with self.assertRaises(BadSteps) as caught:
            put_back(steps)
        self.assertEqual(caught.exception.number, 1)
        self.assertEqual(part, PART)

    def test_refusals_change_nothing(self):
        for bad in BAD_STEPS:
            steps = [(0, "ask"), (1, "ask"), bad]
            with self.assertRaises(BadSteps):
                put_back(steps)
            self.assertEqual(steps, [(0, "ask"), (1, "ask"), bad])
        steps = [(0, "ask"), (1, "ask"), (2, "add", 1, 0)]
        with self.assertRaises(NoSum):
            put_back(steps)
        self.assertEqual(steps, [(0, "ask"), (1, "ask"), (2, "add", 1, 0)])

    def test_a_call_knows_nothing_of_the_one_before(self):
        text = written(PART)
        told = [tell(PART) for tell in TELLS]
        for _ in range(3):
            for bad in (("say", ("num", 1000)), tree(61)):
                for tell in TELLS + [written]:
                    with self.assertRaises(BadSum):
                        tell(bad)
            with self.assertRaises(BadText):
                read_sum(text + " a")
            self.assertEqual(once(("add", ("name", "a"), ("name", "a"))), [(0, "name", "a"), (1, "add", 0, 0)])
            self.assertEqual([tell(PART) for tell in TELLS], told)
            self.assertEqual((written(PART), read_sum(text)), (text, PART))

    def test_true_and_false_are_no_numbers(self):
        for wrong in (True, False):
            for tell in TELLS + [written]:
                with self.assertRaises(BadSum):
                    tell(("say", ("num", wrong)))
            for step in ((wrong, "num", 1), (2, "num", wrong), (2, "say", wrong), (2, "add", 0, wrong)):
                with self.assertRaises(BadSteps) as caught:
                    put_back([(0, "num", 1), (1, "num", 1), step])
                self.assertEqual(caught.exception.number, 2)


if __name__ == "__main__":
    unittest.main()
