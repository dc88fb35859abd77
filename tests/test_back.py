import itertools
import unittest

from samples import (ASK, BAD_STEPS, GIVEN, NAMES, NUM, SUMS, chain, counting_steps, plain_steps, small_sums, tree,
                     within)
from stepnames import back
from stepnames.back import put_back
from stepnames.cutting import cut, once, tight
from stepnames.errors import BadSteps, NoSum
from stepnames.least import least
from stepnames.steps import run
from stepnames.sums import worth

A = ("name", "a")
SMALL = small_sums(7) + small_sums(5, (NUM, A, ASK), ("add", "times"))


def used_boxes(step):
    """The boxes that a step uses."""
    return step[2:] if step[1] not in ("num", "name") else ()


def moved(steps, to):
    """Steps with other numbers of boxes."""
    return [(to[step[0]], step[1], *([to[box] for box in used_boxes(step)] or step[2:])) for step in steps]


def sources(steps):
    """For each step the numbers of the steps that it uses; None if one uses what is not there."""
    last = {}
    found = []
    for number, step in enumerate(steps):
        if any(box not in last for box in used_boxes(step)):
            return None
        found.append([last[box] for box in used_boxes(step)])
        last[step[0]] = number
    return found


def walked(number, found):
    """The numbers of the steps of a sum, each behind its parts', the one's ahead of the other's."""
    return [one for inner in found[number] for one in walked(inner, found)] + [number]


def is_one_sum(steps, found):
    """Whether steps are a sum, as point 11 says it."""
    uses = [one for inner in found for one in inner]
    if sorted(uses) != list(range(len(steps) - 1)):
        return False
    effects = [number for number in walked(len(steps) - 1, found) if steps[number][1] in ("say", "ask")]
    return effects == sorted(effects)


class BackTest(unittest.TestCase):
    def assert_no_sum(self, *several):
        for steps in several:
            with self.subTest(steps=steps[:12]):
                with self.assertRaises(NoSum):
                    put_back(steps)
                # Were they no steps, they would be refused as bad ones.
                self.assertEqual(len(run(steps, NAMES, [1] * 200)), 3)


class TestPutBack(BackTest):
    def test_each_kind(self):
        for part in (("num", 0), ("num", 999), ("name", "a"), ("name", "f"), ASK):
            self.assertEqual(put_back([(0, *part)]), part)
            self.assertEqual(put_back([(199, *part)]), part)
        self.assertEqual(put_back([(3, "ask"), (5, "say", 3)]), ("say", ASK))
        for word in ("add", "less", "times"):
            self.assertEqual(put_back([(3, "num", 1), (5, "name", "a"), (7, word, 3, 5)]), (word, NUM, A))
            self.assertEqual(put_back([(3, "num", 1), (5, "name", "a"), (7, word, 5, 3)]), (word, A, NUM))

    def test_what_cut_tight_and_least_tell(self):
        for part in SMALL + SUMS:
            with self.subTest(part=part):
                for steps in (cut(part), tight(part), least(part)[1]):
                    self.assertEqual(put_back(steps), part)

    def test_other_numbers_of_boxes(self):
        for part in SMALL + SUMS:
            for steps in (cut(part), tight(part), least(part)[1]):
                self.assertEqual(put_back(moved(steps, [199 - box for box in range(60)])), part)
                self.assertEqual(put_back(moved(steps, [box * 73 % 200 for box in range(60)])), part)

    def test_what_once_tells_is_the_sum_just_where_nothing_is_used_twice(self):
        for part in SMALL:
            with self.subTest(part=part):
                steps = once(part)
                if len(steps) == len(within(part)):
                    self.assertEqual(put_back(steps), part)
                else:
                    self.assert_no_sum(steps)

    def test_steps_next_to_one_another_exchanged(self):
        part = ("less", ("add", NUM, ASK), ("say", ("times", A, NUM)))
        steps = cut(part)
        exchanged = 0
        for at in range(len(steps) - 1):
            other = steps[:at] + [steps[at + 1], steps[at]] + steps[at + 2:]
            if steps[at][0] not in used_boxes(steps[at + 1]):
                self.assertEqual(put_back(other), part)
                exchanged += 1
            else:
                with self.assertRaises(BadSteps):
                    put_back(other)
        self.assertEqual(exchanged, 3)

    def test_any_order_that_keeps_parts_ahead_and_effects(self):
        for part in (("less", ("add", NUM, A), ("times", A, NUM)), ("less", ("say", NUM), ("add", A, ASK)),
                     ("add", ASK, ("less", ASK, ("say", A)))):
            several = 0
            for order in itertools.permutations(cut(part)):
                if sources(order) is None:
                    continue
                if [step for step in order if step[1] in ("say", "ask")] == [
                        step for step in cut(part) if step[1] in ("say", "ask")]:
                    self.assertEqual(put_back(list(order)), part)
                    several += 1
                else:
                    self.assert_no_sum(list(order))
            self.assertGreater(several, 2)

    def test_a_box_put_in_again_once_it_was_used(self):
        self.assertEqual(put_back([(0, "num", 1), (1, "say", 0), (0, "num", 2), (0, "less", 1, 0)]),
                         ("less", ("say", NUM), ("num", 2)))
        self.assertEqual(put_back([(0, "num", 1)] + [(0, "say", 0)] * 14), chain(15))

    def test_comes_to_the_same(self):
        for part in SUMS:
            steps = plain_steps(part)
            self.assertEqual(run(steps, NAMES, GIVEN), worth(put_back(steps), NAMES, GIVEN))

    def test_interface(self):
        told = put_back(steps=[(0, "num", 1), (0, "say", 0)])
        self.assertEqual((told, type(told)), (("say", NUM), tuple))
        self.assertEqual(back.put_back.__module__, "stepnames.back")


class TestNoSum(BackTest):
    def test_effects_out_of_their_order(self):
        self.assert_no_sum(
            [(0, "ask"), (1, "ask"), (2, "less", 1, 0)],
            [(0, "num", 1), (1, "num", 2), (1, "say", 1), (0, "say", 0), (2, "add", 0, 1)],
            [(0, "num", 1), (1, "ask"), (0, "say", 0), (2, "times", 0, 1)],
            [(0, "ask"), (1, "num", 1), (1, "say", 1), (2, "less", 1, 0), (3, "say", 2)],
            [(0, "ask"), (1, "ask"), (2, "ask"), (1, "less", 2, 1), (0, "less", 0, 1)],
            [(0, "ask"), (1, "ask"), (2, "ask"), (2, "less", 0, 2), (0, "less", 2, 1)])

    def test_plain_steps_in_any_order_are_no_matter(self):
        self.assertEqual(put_back([(0, "num", 1), (1, "ask"), (2, "less", 1, 0)]), ("less", ASK, NUM))
        self.assertEqual(put_back([(1, "ask"), (0, "num", 1), (2, "less", 0, 1)]), ("less", NUM, ASK))

    def test_a_step_that_no_later_one_uses(self):
        self.assert_no_sum(
            [(0, "num", 1), (1, "num", 2)], [(0, "num", 1), (0, "num", 1)], [(0, "ask"), (1, "num", 2)],
            [(0, "num", 1), (1, "num", 2), (2, "num", 3), (3, "add", 0, 2)],
            [(0, "num", 1), (1, "say", 0), (2, "num", 3)],
            [(0, "num", 1), (1, "num", 2), (2, "say", 1)], [(0, "num", 1), (1, "num", 2), (2, "say", 0)])

    def test_a_step_used_by_two_steps(self):
        self.assert_no_sum(
            [(0, "num", 1), (1, "say", 0), (2, "say", 0), (3, "add", 1, 2)],
            [(0, "num", 1), (1, "say", 0), (2, "add", 0, 1)], [(0, "num", 1), (1, "say", 0), (2, "add", 1, 0)],
            [(0, "num", 1), (1, "say", 0), (2, "say", 0)], [(0, "ask"), (1, "say", 0), (1, "say", 0)])

    def test_a_step_used_twice_by_one(self):
        for word in ("add", "less", "times"):
            self.assert_no_sum([(0, "num", 1), (1, word, 0, 0)], [(0, "ask"), (0, word, 0, 0)],
                               [(0, "num", 1), (1, word, 0, 0), (2, "say", 1)])

    def test_a_last_step_whose_box_was_used_ahead_of_it(self):
        self.assert_no_sum(
            [(0, "num", 1), (1, "say", 0), (0, "num", 2)],
            [(0, "num", 1), (1, "num", 2), (0, "add", 0, 1), (1, "name", "a")])

    def test_a_box_put_in_again_while_it_is_wanted(self):
        self.assert_no_sum(
            [(0, "num", 1), (0, "num", 2), (1, "say", 0)],
            [(0, "num", 1), (1, "num", 2), (1, "num", 3), (0, "add", 0, 1)],
            [(0, "num", 1), (1, "num", 2), (0, "say", 1)],
            [(0, "num", 1), (1, "num", 2), (0, "say", 1), (0, "add", 0, 1)],
            [(0, "num", 1), (1, "num", 2), (0, "say", 1), (0, "say", 0)])

    def test_more_than_sixty_sums(self):
        for leaf in (NUM, A, ASK):
            self.assertEqual(put_back(plain_steps(tree(60, leaf))), tree(60, leaf))
            self.assert_no_sum(*[plain_steps(tree(many, leaf)) for many in (61, 62, 63, 120, 199, 200)])

    def test_more_than_fifteen_within_one_another(self):
        for leaf in (NUM, A, ASK):
            self.assertEqual(put_back(plain_steps(chain(15, leaf))), chain(15, leaf))
            self.assert_no_sum(*[plain_steps(chain(many, leaf)) for many in (16, 17, 59, 60, 61, 200)])
            self.assertEqual(put_back(plain_steps(("less", NUM, chain(14, leaf)))), ("less", NUM, chain(14, leaf)))
            self.assert_no_sum(plain_steps(("less", NUM, chain(15, leaf))),
                               plain_steps(("less", chain(15, leaf), NUM)))

    def test_far_too_many_uses(self):
        self.assert_no_sum([(0, "num", 1)] + [(0, "add", 0, 0)] * 199,
                           [(at, "num", 1) for at in range(200)], [(0, "ask")] * 200)

    def test_all_short_steps(self):
        rests = [("num", 1), ("ask",), ("say", 0), ("say", 1), ("less", 0, 0), ("less", 0, 1), ("less", 1, 0)]
        every = [(box, *rest) for box in (0, 1) for rest in rests]
        came_back = 0
        for many in (1, 2, 3, 4):
            for steps in itertools.product(every, repeat=many):
                found = sources(steps)
                if found is None:
                    with self.assertRaises(BadSteps):
                        put_back(list(steps))
                elif is_one_sum(steps, found):
                    part = put_back(list(steps))
                    self.assertEqual([one[0] for one in within(part)],
                                     [steps[number][1] for number in walked(many - 1, found)])
                    self.assertEqual(run(list(steps), {}, [7, 5, 4, 2]), worth(part, {}, [7, 5, 4, 2]))
                    came_back += 1
                else:
                    with self.assertRaises(NoSum):
                        put_back(list(steps))
        self.assertGreater(came_back, 100)


class TestBadSteps(BackTest):
    def assert_bad(self, steps, number):
        with self.subTest(steps=steps[:10]):
            with self.assertRaises(BadSteps) as caught:
                put_back(steps)
            self.assertEqual(caught.exception.number, number)

    def test_steps_that_cannot_be(self):
        for bad in BAD_STEPS:
            self.assert_bad([(0, "num", 8), (1, "num", 5), bad], 2)
            self.assert_bad([(0, "num", 8), (1, "say", 0), bad, (0, "add", 0, 1)], 2)
        self.assert_bad([(0, "say", 0)], 0)
        self.assert_bad([(0, "num", 1), (1, "add", 0, 1)], 1)

    def test_none_at_all_and_too_many(self):
        self.assert_bad([], 0)
        self.assert_bad(counting_steps(201), 200)
        self.assert_bad(plain_steps(chain(201))[:200] + [(0, "num", 1)], 200)
        self.assert_bad([(0, "num", 1)] + [(0, "say", 0)] * 300, 200)

    def test_bad_steps_go_ahead_of_no_sum(self):
        for bad in BAD_STEPS:
            self.assert_bad([(0, "num", 8), (1, "num", 5), (1, "num", 5), bad], 3)
            self.assert_bad([(0, "num", 8), (1, "add", 0, 0), (0, "add", 0, 1), bad], 3)
        self.assert_bad([(0, "num", 1)] * 61 + [(5, "sub", 0, 0)], 61)


if __name__ == "__main__":
    unittest.main()
