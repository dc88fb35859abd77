import itertools
import unittest

from samples import ASK, BAD_SUMS, NUM, SUMS, chain, parts, small_sums, tree
from stepnames import notes
from stepnames.errors import BadSum, BadText
from stepnames.notes import read_sum, written

A = ("name", "a")
SMALL = small_sums(7) + small_sums(5, (("num", 30), ("name", "f"), ASK), ("add", "times"))

TEXTS = {
    "add 3 say times a ask": ("add", ("num", 3), ("say", ("times", A, ASK))),
    "0": ("num", 0), "7": ("num", 7), "10": ("num", 10), "99": ("num", 99), "100": ("num", 100),
    "999": ("num", 999), "ask": ASK, "say 0": ("say", ("num", 0)),
    "a": A, "b": ("name", "b"), "c": ("name", "c"), "d": ("name", "d"), "e": ("name", "e"), "f": ("name", "f"),
    "add a 1": ("add", A, NUM), "less 1 a": ("less", NUM, A), "times a a": ("times", A, A),
    "less less 1 a ask": ("less", ("less", NUM, A), ASK),
    "less 1 less a ask": ("less", NUM, ("less", A, ASK)),
    "less say 1 say say ask": ("less", ("say", NUM), ("say", ("say", ASK))),
}

# None of these words can stand anywhere.
NO_WORDS = [
    "", "-1", "-0", "+1", "1.", "1.0", "1e2", "0x1", "1_0", "00", "000", "01", "07", "010", "099", "0000",
    "1000", "9999", "00001", "1" * 30, "9" * 5000, "g", "h", "z", "A", "F", "aa", "ab", "a,", "(a)", "a1", "1a",
    "Add", "ADD", "adds", "ad", "add,", "sub", "minus", "num", "name", "Say", "says", "sayask", "Ask", "asks", "as",
    "!", "~", "_", "''", "'a'", "\"a\"", "()", "None", "True", "$", "&", "@", "^", "`", "{}", "|",
]

LEAVES = {"ask", *"abcdef", *[str(number) for number in range(1000)]}


def text_of(part):
    """What a sum is written as."""
    own = str(part[1]) if part[0] in ("num", "name") else part[0]
    return " ".join([own] + [text_of(inner) for inner in parts(part)])


def end_of_sum(words, at):
    """The place behind the sum that begins at a place; BadText where none can."""
    if at == len(words):
        raise BadText(at)
    word = words[at]
    if word in ("add", "less", "times"):
        return end_of_sum(words, end_of_sum(words, at + 1))
    if word == "say":
        return end_of_sum(words, at + 1)
    if word not in LEAVES:
        raise BadText(at)
    return at + 1


class TestWritten(unittest.TestCase):
    def test_each_kind(self):
        for text, part in TEXTS.items():
            self.assertEqual(written(part), text)

    def test_small_sums_and_large_ones(self):
        for part in SMALL + SUMS:
            with self.subTest(part=part):
                self.assertEqual(written(part), text_of(part))

    def test_each_number_as_it_is(self):
        for number in range(1000):
            self.assertEqual(written(("num", number)), str(number))

    def test_no_sum(self):
        for bad in BAD_SUMS:
            for part in (bad, ("say", bad), ("add", ASK, bad), ("less", bad, NUM)):
                with self.subTest(part=part):
                    with self.assertRaises(BadSum):
                        written(part)
        for part in (tree(61), tree(61, ASK), tree(500), chain(16), ("add", NUM, chain(15, ASK)), chain(5000)):
            with self.assertRaises(BadSum):
                written(part)

    def test_interface(self):
        self.assertEqual(written(part=ASK), "ask")
        self.assertIs(type(written(("num", 5))), str)
        self.assertEqual(notes.written.__module__, "stepnames.notes")
        self.assertEqual(notes.read_sum.__module__, "stepnames.notes")


class TestReadSum(unittest.TestCase):
    def test_each_kind(self):
        for text, part in TEXTS.items():
            self.assertEqual(read_sum(text), part)

    def test_what_is_written_is_read_to_the_same_sum(self):
        for part in SMALL + SUMS:
            with self.subTest(part=part):
                self.assertEqual(read_sum(written(part)), part)

    def test_each_number(self):
        for number in range(1000):
            self.assertEqual(read_sum(str(number)), ("num", number))
        self.assertIs(type(read_sum("5")[1]), int)

    def test_interface(self):
        self.assertEqual(read_sum(text="say 1"), ("say", NUM))
        self.assertIs(type(read_sum("say 1")), tuple)


class TestBadText(unittest.TestCase):
    def assert_bad(self, text, place):
        with self.subTest(text=text[:50]):
            with self.assertRaises(BadText) as caught:
                read_sum(text)
            self.assertEqual(caught.exception.place, place)

    def test_words_that_can_stand_nowhere(self):
        for word in NO_WORDS:
            self.assert_bad(word, 0)
            self.assert_bad("say " + word, 1)
            self.assert_bad("add 3 " + word, 2)
            self.assert_bad("add " + word + " 3", 1)
            self.assert_bad("less say say 4 times " + word + " ask", 5)
            self.assert_bad("ask " + word, 1)

    def test_the_first_such_word_is_meant(self):
        self.assert_bad("add 1000 g", 1)
        self.assert_bad("add g 1000 ask ask", 1)
        self.assert_bad("times a b c g", 3)
        self.assert_bad("times a g c b", 2)

    def test_the_empty_text(self):
        self.assert_bad("", 0)

    def test_blanks_too_many(self):
        self.assert_bad(" ", 0)
        self.assert_bad("   ", 0)
        self.assert_bad(" a", 0)
        self.assert_bad("  a", 0)
        self.assert_bad("a ", 1)
        self.assert_bad("a  ", 1)
        self.assert_bad("add  3 4", 1)
        self.assert_bad("add 3  4", 2)
        self.assert_bad("add 3 4 ", 3)
        self.assert_bad(" add 3 4", 0)
        self.assert_bad("say ", 1)
        self.assert_bad("add 3 ", 2)

    def test_a_word_too_many(self):
        for text, part in TEXTS.items():
            for word in ("a", "0", "ask", "say", "add", "less", "times"):
                self.assert_bad(text + " " + word, len(text.split()))
                self.assert_bad(text + " " + word + " ask ask", len(text.split()))

    def test_words_that_lack(self):
        for text, part in TEXTS.items():
            words = text.split()
            for many in range(1, len(words)):
                self.assert_bad(" ".join(words[:many]), many)
        for word in ("add", "less", "times", "say"):
            self.assert_bad(word, 1)
        self.assert_bad("add 3", 2)
        self.assert_bad("add say 3", 3)
        self.assert_bad("add add 3 4", 4)

    def test_no_blank_between(self):
        self.assert_bad("add,3,4", 0)
        self.assert_bad("add 34", 2)
        self.assert_bad("sayask", 0)
        self.assert_bad("add a-b", 1)

    def test_any_few_words(self):
        vocabulary = ["add", "times", "say", "ask", "f", "0", "", "g", "1000"]
        for many in range(1, 6):
            for words in itertools.product(vocabulary, repeat=many):
                text = " ".join(words)
                try:
                    end = end_of_sum(words, 0)
                    place = end if end < many else None
                except BadText as wrong:
                    place = wrong.place
                if place is None:
                    self.assertEqual(written(read_sum(text)), text)
                else:
                    with self.assertRaises(BadText) as caught:
                        read_sum(text)
                    self.assertEqual(caught.exception.place, place)

    def test_texts_far_too_long(self):
        self.assert_bad("say " * 5000 + "g", 5000)
        self.assert_bad("say " * 5000, 5000)
        self.assert_bad("say " * 4999 + "say", 5000)
        self.assert_bad("say " * 5000 + "a a", 5001)
        self.assert_bad("add " * 3000 + "a " * 3000 + "a a", 6001)


class TestBadSum(unittest.TestCase):
    def assert_bad_sum(self, text):
        with self.subTest(text=text[:50]):
            with self.assertRaises(BadSum):
                read_sum(text)

    def test_more_than_sixty_sums(self):
        for leaf in (NUM, A, ASK):
            self.assertEqual(read_sum(text_of(tree(60, leaf))), tree(60, leaf))
            for many in (61, 62, 63, 120, 500):
                self.assert_bad_sum(text_of(tree(many, leaf)))

    def test_more_than_fifteen_within_one_another(self):
        self.assertEqual(read_sum("say " * 14 + "a"), chain(15, A))
        for many in (15, 16, 58, 59, 60, 500, 20000):
            self.assert_bad_sum("say " * many + "a")
        self.assertEqual(read_sum("less 1 " + "say " * 13 + "ask"), ("less", NUM, chain(14, ASK)))
        self.assert_bad_sum("less 1 " + "say " * 14 + "ask")
        self.assert_bad_sum("less " + "say " * 14 + "ask 1")
        self.assert_bad_sum("add 1 " * 15 + "1")
        self.assert_bad_sum("add " * 5000 + "1 " * 5000 + "1")

    def test_bad_text_goes_ahead_of_bad_sum(self):
        for text, place in (("say " * 15 + "g", 15), ("say " * 15, 15), ("say " * 15 + "a a", 16),
                            (text_of(tree(61)) + " 1", 61), (text_of(tree(61))[:-2], 60),
                            (text_of(tree(61)) + " ", 61), (" " + text_of(tree(61)), 0)):
            with self.assertRaises(BadText) as caught:
                read_sum(text)
            self.assertEqual(caught.exception.place, place)


if __name__ == "__main__":
    unittest.main()
