import itertools
import unittest

from samples import (ASK, BAD_SUMS, GIVEN, NAMES, NUM, SUMS, chain, effective, plain_steps, small_sums, tree,
                     within)
from stepnames import cutting
from stepnames.cutting import cut, once, tight
from stepnames.errors import BadSum
from stepnames.steps import boxes, run
from stepnames.sums import worth

A = ("name", "a")
SMALL = small_sums(7) + small_sums(5, (NUM, A, ASK), ("add", "times"))


def fewest_held(part):
    """How many of the plain steps' worths are wanted at once, at the most: fewer boxes cannot do."""
    steps = plain_steps(part)
    last_use = {box: at for at, step in enumerate(steps) for box in step[2:] if step[1] not in ("num", "name")}
    last_use[len(steps) - 1] = len(steps)
    return max(sum(last_use[box] > at for box in range(at + 1)) for at in range(len(steps)))


def some_boxes_do(part, many):
    """Whether the plain steps can be put in so many boxes, each of which holds what is still wanted."""
    steps = plain_steps(part)
    for chosen in itertools.product(range(many), repeat=len(steps)):
        held = {}
        for at, step in enumerate(steps):
            inner = step[2:] if step[1] not in ("num", "name") else ()
            if any(held.get(chosen[one]) != one for one in inner):
                break
            for one in inner:
                del held[chosen[one]]
            if chosen[at] in held:
                break
            held[chosen[at]] = at
        else:
            return True
    return False


class CuttingTest(unittest.TestCase):
    def assert_comes_to_the_same(self, tell, parts):
        for part in parts:
            with self.subTest(part=part):
                self.assertEqual(run(tell(part), NAMES, GIVEN), worth(part, NAMES, GIVEN))

    def assert_refuses_what_is_no_sum(self, tell):
        for bad in BAD_SUMS:
            for part in (bad, ("say", bad), ("add", ASK, bad), ("less", bad, NUM)):
                with self.subTest(part=part):
                    with self.assertRaises(BadSum):
                        tell(part)
        for part in (tree(61), tree(61, ASK), tree(500), chain(16), ("add", NUM, chain(15, ASK)), chain(5000)):
            with self.assertRaises(BadSum):
                tell(part)

    def assert_kinds(self, told, many):
        self.assertIs(type(told), list)
        self.assertEqual([type(step) for step in told], [tuple] * many)


class TestCut(CuttingTest):
    def test_each_kind(self):
        self.assertEqual(cut(("num", 0)), [(0, "num", 0)])
        self.assertEqual(cut(("num", 999)), [(0, "num", 999)])
        self.assertEqual(cut(("name", "f")), [(0, "name", "f")])
        self.assertEqual(cut(ASK), [(0, "ask")])
        self.assertEqual(cut(("say", A)), [(0, "name", "a"), (1, "say", 0)])
        for word in ("add", "less", "times"):
            self.assertEqual(cut((word, NUM, A)), [(0, "num", 1), (1, "name", "a"), (2, word, 0, 1)])
            self.assertEqual(cut((word, A, A)), [(0, "name", "a"), (1, "name", "a"), (2, word, 0, 1)])

    def test_parts_ahead_and_the_one_ahead_of_the_other(self):
        part = ("less", ("say", ("add", NUM, ASK)), ("times", A, ("say", ("num", 4))))
        self.assertEqual(cut(part), [
            (0, "num", 1), (1, "ask"), (2, "add", 0, 1), (3, "say", 2),
            (4, "name", "a"), (5, "num", 4), (6, "say", 5), (7, "times", 4, 6), (8, "less", 3, 7)])

    def test_like_parts_are_cut_each_time(self):
        part = ("add", ("say", NUM), ("say", NUM))
        self.assertEqual(cut(part), [(0, "num", 1), (1, "say", 0), (2, "num", 1), (3, "say", 2), (4, "add", 1, 3)])

    def test_small_sums_and_large_ones(self):
        for part in SMALL + SUMS:
            with self.subTest(part=part):
                self.assertEqual(cut(part), plain_steps(part))

    def test_a_step_for_each_sum_and_boxes_from_0_on(self):
        for part in SUMS:
            told = cut(part)
            self.assertEqual([step[0] for step in told], list(range(len(within(part)))))
        self.assertEqual([step[0] for step in cut(tree(60))], list(range(60)))

    def test_comes_to_the_same(self):
        self.assert_comes_to_the_same(cut, SMALL + SUMS)

    def test_effects_in_the_same_order(self):
        part = ("less", ("say", ASK), ("add", ("say", ("num", 7)), ("say", ASK)))
        self.assertEqual(run(cut(part), {}, [100, 20]), (73, [100, 7, 20], 2))

    def test_refusals(self):
        self.assert_refuses_what_is_no_sum(cut)

    def test_interface(self):
        self.assert_kinds(cut(part=("say", NUM)), 2)
        for name in ("cut", "tight", "once"):
            self.assertEqual(getattr(cutting, name).__module__, "stepnames.cutting")


class TestTight(CuttingTest):
    def test_each_kind(self):
        for part in (("num", 0), ("num", 999), A, ASK):
            self.assertEqual(tight(part), [(0, *part)])
        self.assertEqual(tight(("say", ASK)), [(0, "ask"), (0, "say", 0)])
        for word in ("add", "less", "times"):
            self.assertEqual(tight((word, NUM, A)), [(0, "num", 1), (1, "name", "a"), (0, word, 0, 1)])

    def test_the_box_of_each_part(self):
        part = ("less", ("say", ("add", NUM, ASK)), ("times", A, ("say", ("add", A, ("say", ("num", 4))))))
        self.assertEqual(tight(part), [
            (0, "num", 1), (1, "ask"), (0, "add", 0, 1), (0, "say", 0),
            (1, "name", "a"), (2, "name", "a"), (3, "num", 4), (3, "say", 3), (2, "add", 2, 3), (2, "say", 2),
            (1, "times", 1, 2), (0, "less", 0, 1)])

    def test_one_box_for_says_and_ones(self):
        self.assertEqual(boxes(tight(chain(15))), 1)
        left = right = NUM
        for _ in range(14):
            left, right = ("add", left, NUM), ("add", NUM, right)
        self.assertEqual(boxes(tight(left)), 2)
        self.assertEqual(boxes(tight(right)), 15)

    def test_the_steps_of_cut_in_their_order(self):
        for part in SMALL + SUMS:
            with self.subTest(part=part):
                told = tight(part)
                plain = cut(part)
                held = {}
                found = []
                for at, step in enumerate(told):
                    inner = step[2:] if step[1] not in ("num", "name") else ()
                    rest = tuple(held[box] for box in inner) or step[2:]
                    found.append((at, step[1], *rest))
                    held[step[0]] = at
                self.assertEqual(found, plain)

    def test_no_fewer_than_the_worths_still_wanted(self):
        for part in SMALL + SUMS:
            with self.subTest(part=part):
                self.assertEqual(boxes(tight(part)), fewest_held(part))

    def test_no_other_boxes_are_fewer(self):
        for part in small_sums(6) + [("add", ("less", NUM, NUM), ("times", NUM, A)),
                                     ("add", NUM, ("less", NUM, ("times", NUM, A)))]:
            with self.subTest(part=part):
                many = boxes(tight(part))
                self.assertTrue(some_boxes_do(part, many))
                self.assertFalse(some_boxes_do(part, many - 1))

    def test_boxes_are_those_from_0_on(self):
        for part in SMALL + SUMS:
            told = tight(part)
            self.assertEqual({step[0] for step in told}, set(range(boxes(told))))
            self.assertEqual(told[-1][0], 0)

    def test_comes_to_the_same(self):
        self.assert_comes_to_the_same(tight, SMALL + SUMS)

    def test_refusals(self):
        self.assert_refuses_what_is_no_sum(tight)

    def test_interface(self):
        self.assert_kinds(tight(part=("say", NUM)), 2)


class TestOnce(CuttingTest):
    def test_each_kind(self):
        for part in (("num", 0), ("num", 999), A, ASK):
            self.assertEqual(once(part), [(0, *part)])
        self.assertEqual(once(("say", ASK)), [(0, "ask"), (1, "say", 0)])
        for word in ("add", "less", "times"):
            self.assertEqual(once((word, NUM, A)), [(0, "num", 1), (1, "name", "a"), (2, word, 0, 1)])

    def test_like_sums_without_an_effect_stand_once(self):
        for word in ("add", "less", "times"):
            self.assertEqual(once((word, A, A)), [(0, "name", "a"), (1, word, 0, 0)])
        double = ("add", A, NUM)
        self.assertEqual(once(("times", double, double)),
                         [(0, "name", "a"), (1, "num", 1), (2, "add", 0, 1), (3, "times", 2, 2)])

    def test_where_they_are_met_first(self):
        part = ("less", ("add", NUM, A), ("times", A, ("add", ("add", NUM, A), ("num", 2))))
        self.assertEqual(once(part), [
            (0, "num", 1), (1, "name", "a"), (2, "add", 0, 1), (3, "num", 2), (4, "add", 2, 3),
            (5, "times", 1, 4), (6, "less", 2, 5)])

    def test_unlike_sums_stand_each(self):
        part = ("add", ("less", NUM, A), ("less", A, NUM))
        self.assertEqual(once(part), [
            (0, "num", 1), (1, "name", "a"), (2, "less", 0, 1), (3, "less", 1, 0), (4, "add", 2, 3)])
        part = ("add", ("less", NUM, A), ("times", NUM, A))
        self.assertEqual(len(once(part)), 5)
        part = ("add", ("num", 1), ("num", 11))
        self.assertEqual(len(once(part)), 3)
        part = ("add", ("name", "a"), ("name", "b"))
        self.assertEqual(len(once(part)), 3)

    def test_sums_with_an_effect_stand_as_often_as_they_do(self):
        self.assertEqual(once(("add", ASK, ASK)), [(0, "ask"), (1, "ask"), (2, "add", 0, 1)])
        self.assertEqual(once(("add", ("say", A), ("say", A))),
                         [(0, "name", "a"), (1, "say", 0), (2, "say", 0), (3, "add", 1, 2)])
        part = ("add", NUM, ("say", A))
        self.assertEqual(once(("times", part, part)), [
            (0, "num", 1), (1, "name", "a"), (2, "say", 1), (3, "add", 0, 2),
            (4, "say", 1), (5, "add", 0, 4), (6, "times", 3, 5)])
        self.assertEqual(once(("say", ("say", A))), [(0, "name", "a"), (1, "say", 0), (2, "say", 1)])

    def test_as_many_steps_as_the_document_says(self):
        for part in SMALL + SUMS:
            with self.subTest(part=part):
                plain = {one for one in within(part) if not effective(one)}
                with_effect = [one for one in within(part) if effective(one)]
                told = once(part)
                self.assertEqual([step[0] for step in told], list(range(len(plain) + len(with_effect))))

    def test_each_step_is_the_next_sum_not_met_yet(self):
        for part in SMALL + SUMS:
            with self.subTest(part=part):
                expected = []
                for one in within(part):
                    if effective(one) or one not in expected:
                        expected.append(one)
                found = []
                for step in once(part):
                    if step[1] in ("num", "name"):
                        found.append(step[1:])
                    else:
                        found.append((step[1], *(found[box] for box in step[2:])))
                self.assertEqual(found, expected)

    def test_comes_to_the_same(self):
        self.assert_comes_to_the_same(once, SMALL + SUMS)

    def test_fifteen_within_one_another(self):
        part = NUM
        for _ in range(5):
            part = ("add", part, part) if len(within(part)) < 30 else ("say", part)
        self.assertEqual(once(part)[:5], [(0, "num", 1), (1, "add", 0, 0), (2, "add", 1, 1),
                                          (3, "add", 2, 2), (4, "add", 3, 3)])
        deep = A
        for _ in range(14):
            deep = ("less", deep, NUM)
        self.assertEqual(once(deep), [(0, "name", "a"), (1, "num", 1)]
                         + [(2, "less", 0, 1)] + [(at, "less", at - 1, 1) for at in range(3, 16)])

    def test_refusals(self):
        self.assert_refuses_what_is_no_sum(once)

    def test_interface(self):
        self.assert_kinds(once(part=("say", NUM)), 2)


if __name__ == "__main__":
    unittest.main()
