import itertools
import unittest

from samples import (ASK, BAD_SUMS, GIVEN, NAMES, NUM, SUMS, chain, effective, parts, plain_steps, small_sums, tree,
                     within)
from stepnames import least as least_file
from stepnames.cutting import tight
from stepnames.errors import BadSum
from stepnames.least import least
from stepnames.steps import boxes, run
from stepnames.sums import worth

A = ("name", "a")
PAIR = ("add", A, A)
SMALL = small_sums(7) + small_sums(5, (NUM, A, ASK), ("add", "times"))


def may_turn(part):
    """Whether the other's steps may stand ahead of the one's."""
    return len(parts(part)) == 2 and not all(effective(inner) for inner in parts(part))


def ways(part):
    """All allowed ways for a sum: what tells the steps of each, once it is told the box of the sum."""
    inner_ways = [ways(inner) for inner in parts(part)]
    orders = [False, True] if may_turn(part) else [False]
    return [(part, turned, chosen) for turned in orders for chosen in itertools.product(*inner_ways)]


def steps_of(way, box=0):
    """The steps of a way."""
    part, turned, chosen = way
    if not chosen:
        return [(box, *part)]
    if len(chosen) == 1:
        return steps_of(chosen[0], box) + [(box, part[0], box)]
    if turned:
        return steps_of(chosen[1], box) + steps_of(chosen[0], box + 1) + [(box, part[0], box + 1, box)]
    return steps_of(chosen[0], box) + steps_of(chosen[1], box + 1) + [(box, part[0], box, box + 1)]


def fewest(some_ways):
    """The fewest boxes of these ways."""
    return min(len({step[0] for step in steps_of(way)}) for way in some_ways)


def told_way(part):
    """The way that the document tells: at each place, fewer boxes for that sum, else the one ahead."""
    every = ways(part)
    straight = fewest([way for way in every if not way[1]])
    turned = may_turn(part) and fewest([way for way in every if way[1]]) < straight
    return (part, turned, [told_way(inner) for inner in parts(part)])


class TestLeast(unittest.TestCase):
    def test_each_kind(self):
        for part in (("num", 0), ("num", 999), A, ASK):
            self.assertEqual(least(part), (1, [(0, *part)]))
        self.assertEqual(least(("say", ASK)), (1, [(0, "ask"), (0, "say", 0)]))
        for word in ("add", "less", "times"):
            self.assertEqual(least((word, NUM, A)), (2, [(0, "num", 1), (1, "name", "a"), (0, word, 0, 1)]))

    def test_the_other_goes_ahead_where_that_comes_to_fewer(self):
        for word in ("add", "less", "times"):
            self.assertEqual(least((word, NUM, PAIR)), (2, [
                (0, "name", "a"), (1, "name", "a"), (0, "add", 0, 1), (1, "num", 1), (0, word, 1, 0)]))

    def test_the_one_goes_ahead_where_both_ways_come_to_as_few(self):
        self.assertEqual(least(("less", PAIR, PAIR)), (3, [
            (0, "name", "a"), (1, "name", "a"), (0, "add", 0, 1),
            (1, "name", "a"), (2, "name", "a"), (1, "add", 1, 2), (0, "less", 0, 1)]))
        self.assertEqual(least(("less", PAIR, NUM)), (2, [
            (0, "name", "a"), (1, "name", "a"), (0, "add", 0, 1), (1, "num", 1), (0, "less", 0, 1)]))
        self.assertEqual(least(("less", NUM, A))[1][0], (0, "num", 1))

    def test_as_few_for_that_sum_even_where_the_whole_wants_more(self):
        part = ("less", ("add", NUM, PAIR), ("times", PAIR, PAIR))
        self.assertEqual(least(part), (3, [
            (0, "name", "a"), (1, "name", "a"), (0, "add", 0, 1),
            (1, "name", "a"), (2, "name", "a"), (1, "add", 1, 2), (0, "times", 0, 1),
            (1, "name", "a"), (2, "name", "a"), (1, "add", 1, 2), (2, "num", 1), (1, "add", 2, 1),
            (0, "less", 1, 0)]))

    def test_the_one_always_goes_ahead_where_both_have_effects(self):
        for one in (ASK, ("say", NUM)):
            part = ("less", one, ("say", PAIR))
            many, steps = least(part)
            self.assertEqual((many, steps), (3, tight(part)))
        part = ("less", ASK, ("add", ASK, ("times", ASK, ASK)))
        self.assertEqual(least(part), (4, tight(part)))

    def test_the_other_may_go_ahead_where_one_alone_has_effects(self):
        self.assertEqual(least(("less", ASK, PAIR)), (2, [
            (0, "name", "a"), (1, "name", "a"), (0, "add", 0, 1), (1, "ask"), (0, "less", 1, 0)]))
        self.assertEqual(least(("less", NUM, ("add", ASK, ASK))), (2, [
            (0, "ask"), (1, "ask"), (0, "add", 0, 1), (1, "num", 1), (0, "less", 1, 0)]))
        self.assertEqual(least(("less", NUM, ("say", PAIR))), (2, [
            (0, "name", "a"), (1, "name", "a"), (0, "add", 0, 1), (0, "say", 0), (1, "num", 1),
            (0, "less", 1, 0)]))

    def test_within_a_turned_part_all_stands_together(self):
        part = ("less", ("add", NUM, PAIR), ("say", ("times", PAIR, ("add", PAIR, NUM))))
        self.assertEqual(least(part), (3, steps_of(told_way(part))))
        self.assertEqual(least(part)[1][-7:], [
            (0, "say", 0), (1, "name", "a"), (2, "name", "a"), (1, "add", 1, 2), (2, "num", 1),
            (1, "add", 2, 1), (0, "less", 1, 0)])

    def test_a_long_row_of_others_wants_two_boxes(self):
        part = NUM
        for _ in range(14):
            part = ("less", A, part)
        self.assertEqual(least(part)[0], 2)
        self.assertEqual(boxes(tight(part)), 15)
        part = ASK
        for _ in range(14):
            part = ("less", ASK, part)
        self.assertEqual(least(part), (15, tight(part)))

    def test_no_allowed_way_has_fewer_boxes_and_the_told_one_is_told(self):
        for part in SMALL:
            with self.subTest(part=part):
                many, steps = least(part)
                self.assertEqual(many, fewest(ways(part)))
                self.assertEqual(steps, steps_of(told_way(part)))

    def test_the_number_is_that_of_unlike_boxes(self):
        for part in SMALL + SUMS + small_sums(9, (A,)):
            with self.subTest(part=part):
                many, steps = least(part)
                self.assertEqual(many, boxes(steps))
                self.assertLessEqual(many, boxes(tight(part)))
                self.assertEqual({step[0] for step in steps}, set(range(many)))
                self.assertEqual(steps[-1][0], 0)

    def test_a_step_for_each_sum(self):
        for part in SMALL + SUMS:
            steps = least(part)[1]
            self.assertEqual(len(steps), len(within(part)))
            self.assertEqual(sorted(step[1] for step in steps), sorted(step[1] for step in plain_steps(part)))

    def test_comes_to_the_same_with_effects_in_their_order(self):
        for part in SMALL + SUMS:
            with self.subTest(part=part):
                self.assertEqual(run(least(part)[1], NAMES, GIVEN), worth(part, NAMES, GIVEN))
        part = ("less", NUM, ("less", ("say", ASK), ("less", A, ("say", ("add", ASK, ASK)))))
        self.assertEqual(run(least(part)[1], {"a": 50}, [100, 20, 7]), (924, [100, 27], 3))

    def test_sixty_sums(self):
        for leaf in (NUM, ASK):
            part = tree(60, leaf)
            many, steps = least(part)
            self.assertEqual((many, len(steps)), (boxes(steps), 60))
        self.assertEqual(least(chain(15))[0], 1)

    def test_refusals(self):
        for bad in BAD_SUMS:
            for part in (bad, ("say", bad), ("add", ASK, bad), ("less", bad, NUM)):
                with self.subTest(part=part):
                    with self.assertRaises(BadSum):
                        least(part)
        for part in (tree(61), tree(61, ASK), tree(500), chain(16), ("add", NUM, chain(15, ASK)), chain(5000)):
            with self.assertRaises(BadSum):
                least(part)

    def test_interface(self):
        told = least(part=("say", PAIR))
        self.assertEqual((type(told), [type(one) for one in told]), (tuple, [int, list]))
        self.assertEqual([type(step) for step in told[1]], [tuple] * 4)
        self.assertEqual(least_file.least.__module__, "stepnames.least")


if __name__ == "__main__":
    unittest.main()
