import unittest

from samples import ASK, BAD_SUMS, NUM, chain, tree
from stepnames import sums
from stepnames.errors import BadSum, NoMore, NoName
from stepnames.sums import has_effect, worth

A = ("name", "a")
B = ("name", "b")


def num(number):
    return ("num", number)


# Each puts a part in one place of a sum.
PLACES = [
    lambda part: part,
    lambda part: ("say", part),
    lambda part: ("add", part, NUM),
    lambda part: ("add", NUM, part),
    lambda part: ("less", part, NUM),
    lambda part: ("less", NUM, part),
    lambda part: ("times", part, NUM),
    lambda part: ("times", NUM, part),
    lambda part: ("say", ("add", NUM, ("less", ("times", NUM, ("say", part)), NUM))),
    lambda part: ("add", ("less", ("times", ("add", part, NUM), NUM), NUM), NUM),
]


class TestWhichAreSums(unittest.TestCase):
    def assert_sum(self, part):
        letters = {letter: 1 for letter in "abcdef"}
        self.assertEqual(len(worth(part, letters, [1] * 60)), 3)
        self.assertIn(has_effect(part), (True, False))

    def assert_no_sum(self, part):
        with self.assertRaises(BadSum):
            worth(part, {letter: 1 for letter in "abcdef"}, [1] * 60)
        with self.assertRaises(BadSum):
            has_effect(part)

    def test_each_kind(self):
        for part in (NUM, A, ("add", NUM, A), ("less", A, NUM), ("times", A, A), ("say", A), ASK):
            for place in PLACES:
                self.assert_sum(place(part))

    def test_numbers_from_0_to_999(self):
        for number in (0, 1, 9, 10, 500, 998, 999):
            self.assert_sum(num(number))

    def test_letters_from_a_to_f(self):
        for letter in "abcdef":
            self.assert_sum(("name", letter))

    def test_tuples_that_are_none_in_any_place(self):
        for bad in BAD_SUMS:
            for place in PLACES:
                with self.subTest(part=place(bad)):
                    self.assert_no_sum(place(bad))

    def test_a_bad_part_fourteen_deep(self):
        self.assert_sum(chain(15, num(999)))
        self.assert_no_sum(chain(15, num(1000)))
        self.assert_no_sum(chain(15, "num"))
        self.assert_no_sum(chain(15, ()))

    def test_sixty_sums_and_one_more(self):
        self.assert_sum(tree(59))
        self.assert_sum(tree(60))
        self.assert_sum(("say", tree(59)))
        self.assert_no_sum(tree(61))
        self.assert_no_sum(("say", tree(60)))
        self.assert_no_sum(tree(62))
        self.assert_no_sum(tree(500))

    def test_each_kind_counts_among_the_sixty(self):
        for leaf in (NUM, A, ASK):
            self.assert_sum(tree(60, leaf))
            self.assert_no_sum(tree(61, leaf))
        for word in ("add", "less", "times"):
            self.assert_sum((word, tree(29), tree(30)))
            self.assert_no_sum((word, tree(30), tree(30)))
            self.assert_sum((word, tree(58), NUM))
            self.assert_no_sum((word, NUM, tree(59)))

    def test_one_tuple_in_two_places_counts_twice(self):
        shared = tree(29)
        self.assert_sum(("add", shared, shared))
        shared = tree(30)
        self.assert_no_sum(("add", shared, shared))

    def test_fifteen_within_one_another_and_one_more(self):
        self.assert_sum(chain(15))
        self.assert_no_sum(chain(16))
        for word in ("add", "less", "times"):
            for leaf in (NUM, A, ASK):
                self.assert_sum((word, chain(14, leaf), NUM))
                self.assert_sum((word, NUM, chain(14, leaf)))
                self.assert_no_sum((word, chain(15, leaf), NUM))
                self.assert_no_sum((word, NUM, chain(15, leaf)))

    def test_both_bounds_at_once(self):
        self.assert_sum(("add", chain(14), tree(45)))
        self.assert_no_sum(("add", chain(14), tree(46)))
        self.assert_no_sum(("add", chain(15), tree(44)))

    def test_far_beyond_the_bounds(self):
        self.assert_no_sum(chain(5000))
        doubled = NUM
        for _ in range(60):
            doubled = ("add", doubled, doubled)
        self.assert_no_sum(doubled)


class TestWorth(unittest.TestCase):
    def assert_worth(self, part, number, said=(), asked=0, names=None, given=()):
        told = worth(part, names or {}, list(given))
        self.assertEqual(told, (number, list(said), asked))

    def test_kinds_of_what_is_told(self):
        told = worth(("add", ("say", NUM), ASK), {}, [5])
        self.assertIs(type(told), tuple)
        self.assertEqual([type(one) for one in told], [int, list, int])

    def test_interface(self):
        self.assertEqual(worth(part=A, names={"a": 4}, given=[]), (4, [], 0))
        self.assertEqual(sums.worth.__module__, "stepnames.sums")
        self.assertEqual(sums.has_effect.__module__, "stepnames.sums")

    def test_a_num_is_its_number(self):
        for number in (0, 7, 999):
            self.assert_worth(num(number), number)

    def test_a_name_is_its_number(self):
        names = {"a": 10, "b": 0, "c": 999, "d": 3, "e": 4, "f": 5}
        for letter, number in names.items():
            self.assert_worth(("name", letter), number, names=names)

    def test_add(self):
        self.assert_worth(("add", num(3), num(4)), 7)
        self.assert_worth(("add", num(999), num(0)), 999)
        self.assert_worth(("add", num(999), num(1)), 0)
        self.assert_worth(("add", num(999), num(999)), 998)

    def test_less(self):
        self.assert_worth(("less", num(9), num(4)), 5)
        self.assert_worth(("less", num(4), num(4)), 0)
        self.assert_worth(("less", num(4), num(9)), 995)
        self.assert_worth(("less", num(0), num(1)), 999)
        self.assert_worth(("less", num(0), num(999)), 1)
        self.assert_worth(("less", num(999), num(0)), 999)

    def test_times(self):
        self.assert_worth(("times", num(6), num(7)), 42)
        self.assert_worth(("times", num(0), num(999)), 0)
        self.assert_worth(("times", num(500), num(2)), 0)
        self.assert_worth(("times", num(37), num(28)), 36)
        self.assert_worth(("times", num(999), num(999)), 1)
        self.assert_worth(("times", num(999), num(998)), 2)

    def test_the_rest_is_taken_at_each_place(self):
        high = ("add", num(999), num(999))
        self.assert_worth(("say", high), 998, said=[998])
        low = ("say", ("less", num(0), num(1)))
        self.assert_worth(("times", low, ("say", ("times", num(50), num(30)))), 500, said=[999, 500])
        self.assert_worth(("less", ("less", num(1), num(2)), ("add", num(600), num(700))), 699)

    def test_ask_is_the_next_one_given(self):
        self.assert_worth(ASK, 8, asked=1, given=[8])
        self.assert_worth(ASK, 0, asked=1, given=[0, 5])
        self.assert_worth(("less", ASK, ASK), 5, asked=2, given=[8, 3])
        self.assert_worth(("less", ("less", ASK, ASK), ASK), 799, asked=3, given=[900, 100, 1])
        self.assert_worth(("less", ASK, ("less", ASK, ASK)), 801, asked=3, given=[900, 100, 1])

    def test_asked_counts_the_asks_and_not_the_given(self):
        self.assert_worth(NUM, 1, asked=0, given=[5, 6])
        self.assert_worth(("add", ASK, ASK), 11, asked=2, given=[5, 6])
        self.assert_worth(("add", ASK, ASK), 11, asked=2, given=[5, 6, 7, 8])

    def test_say_is_its_one_and_says_it(self):
        self.assert_worth(("say", num(5)), 5, said=[5])
        self.assert_worth(("say", A), 6, said=[6], names={"a": 6})
        self.assert_worth(("say", ("say", num(5))), 5, said=[5, 5])
        self.assert_worth(("say", ASK), 9, said=[9], asked=1, given=[9, 1])
        self.assert_worth(("add", ("say", num(5)), ("say", num(5))), 10, said=[5, 5])

    def test_the_one_goes_ahead_with_all_its_effects(self):
        for word, number in (("add", 3), ("less", 999), ("times", 2)):
            self.assert_worth((word, ("say", num(1)), ("say", num(2))), number, said=[1, 2])
            self.assert_worth((word, ASK, ("say", ASK)), number, said=[2], asked=2, given=[1, 2])
            self.assert_worth((word, ("say", ASK), ASK), number, said=[1], asked=2, given=[1, 2])

    def test_effects_in_both_parts_at_depth(self):
        one = ("say", ("add", ("say", ASK), ("times", ("say", num(2)), ASK)))
        other = ("say", ("less", ("say", num(7)), ("say", ASK)))
        self.assert_worth(("less", one, other), 7 + 2 * 11 - (7 - 3),
                          said=[7, 2, 29, 7, 3, 4], asked=3, given=[7, 11, 3])
        self.assert_worth(("less", other, one), (7 - 7) - (11 + 2 * 3) + 1000,
                          said=[7, 7, 0, 11, 2, 17], asked=3, given=[7, 11, 3])

    def test_sixty_sums_come_to_what_they_must(self):
        part = ("say", tree(59, num(999)))
        self.assert_worth(part, 970, said=[970])
        asks = tree(59, ASK)
        self.assert_worth(asks, 465, asked=30, given=range(1, 31))
        self.assert_worth(chain(15, num(4)), 4, said=[4] * 14)

    def test_names_and_given_somewhat_beyond_their_limits_are_no_error(self):
        self.assert_worth(("add", A, NUM), 1, names={"a": 1000})
        self.assert_worth(("add", ASK, NUM), 0, asked=1, given=[-1])
        self.assert_worth(A, 5, names={"a": 5, "g": 7})


class TestRefusalsOfWorth(unittest.TestCase):
    def test_a_name_that_lacks_in_any_place(self):
        for place in PLACES:
            with self.subTest(part=place(A)):
                with self.assertRaises(NoName):
                    worth(place(A), {}, [])
                with self.assertRaises(NoName):
                    worth(place(A), {"b": 1, "c": 2}, [1])
                self.assertEqual(len(worth(place(A), {"a": 0}, [])), 3)

    def test_each_letter_may_lack(self):
        for letter in "abcdef":
            names = {other: 1 for other in "abcdef" if other != letter}
            with self.assertRaises(NoName):
                worth(("name", letter), names, [])

    def test_one_of_two_names_lacks(self):
        for names in ({"a": 1}, {"b": 1}):
            with self.assertRaises(NoName):
                worth(("add", A, B), names, [])

    def test_more_asks_than_given(self):
        for place in PLACES:
            with self.subTest(part=place(ASK)):
                with self.assertRaises(NoMore):
                    worth(place(ASK), {}, [])
                with self.assertRaises(NoMore):
                    worth(("add", place(ASK), ASK), {}, [1])
                with self.assertRaises(NoMore):
                    worth(("add", ASK, place(ASK)), {}, [1])
                self.assertEqual(worth(("add", place(ASK), ASK), {}, [1, 2])[2], 2)

    def test_no_name_goes_ahead_of_no_more(self):
        for part in (("add", ASK, A), ("add", A, ASK), ("say", ("less", ("say", ASK), A))):
            with self.assertRaises(NoName):
                worth(part, {"b": 1}, [])
            with self.assertRaises(NoMore):
                worth(part, {"a": 1}, [])

    def test_bad_sum_goes_ahead_of_all(self):
        for bad in BAD_SUMS:
            for part in (("add", ("add", A, ASK), bad), ("add", bad, ("times", ASK, A))):
                with self.subTest(part=part):
                    with self.assertRaises(BadSum):
                        worth(part, {}, [])
        with self.assertRaises(BadSum):
            worth(("add", A, tree(59, ASK)), {}, [])
        with self.assertRaises(BadSum):
            worth(chain(16, A), {}, [])


class TestHasEffect(unittest.TestCase):
    def test_sums_with_an_effect_in_any_place(self):
        for part in (ASK, ("say", NUM), ("say", A), ("say", ASK)):
            for place in PLACES:
                with self.subTest(part=place(part)):
                    self.assertIs(has_effect(place(part)), True)

    def test_sums_without(self):
        plain = [NUM, num(0), A, ("add", NUM, A), ("less", A, B), ("times", NUM, NUM),
                 ("add", ("less", A, NUM), ("times", B, ("add", NUM, NUM)))]
        for part in plain:
            with self.subTest(part=part):
                self.assertIs(has_effect(part), False)
                self.assertIs(has_effect(("add", part, part)), False)

    def test_effects_at_the_bounds(self):
        self.assertIs(has_effect(tree(59)), False)
        self.assertIs(has_effect(("say", tree(59))), True)
        plain = NUM
        effective = ASK
        for _ in range(14):
            plain = ("add", NUM, plain)
            effective = ("add", NUM, effective)
        self.assertIs(has_effect(plain), False)
        self.assertIs(has_effect(effective), True)

    def test_a_bad_part_behind_an_effect_is_refused(self):
        for bad in BAD_SUMS:
            for part in (("say", bad), ("add", ASK, bad), ("add", bad, ASK)):
                with self.assertRaises(BadSum):
                    has_effect(part)

    def test_interface(self):
        self.assertIs(has_effect(part=ASK), True)


if __name__ == "__main__":
    unittest.main()
