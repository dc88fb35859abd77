"""Sums as texts: words with one blank between, each sum's word ahead of its parts."""

from stepnames.errors import BadText
from stepnames.forms import LETTERS, WORDS_WITH_TWO_PARTS, parts_of
from stepnames.sums import refuse_bad_sum

MOST_FIGURES = 3
NO_WORD = -1


def written(part):
    """The text of a sum."""
    refuse_bad_sum(part)
    return " ".join(words_of(part))


def read_sum(text):
    """The sum that a text was written of."""
    # A blank too many leaves an empty word, which can stand nowhere.
    words = text.split(" ")
    refuse_bad_words(words)
    part = sum_of_words(words)
    refuse_bad_sum(part)
    return part


def words_of(part):
    """The words of a sum, its own first."""
    words = [own_word(part)]
    for inner in parts_of(part):
        words.extend(words_of(inner))
    return words


def own_word(part):
    """The word that a sum is written as ahead of its parts."""
    if part[0] == "num":
        return str(part[1])
    if part[0] == "name":
        return part[1]
    return part[0]


def refuse_bad_words(words):
    """Refuses words of which one cannot stand where it does, or which lack more words."""
    wanted = 1
    for place, word in enumerate(words):
        parts = parts_wanted(word)
        if wanted == 0 or parts == NO_WORD:
            raise BadText(place)
        wanted += parts - 1
    if wanted > 0:
        raise BadText(len(words))


def parts_wanted(word):
    """How many parts stand behind a word of a sum; NO_WORD for a word that can stand nowhere."""
    if word in WORDS_WITH_TWO_PARTS:
        return 2
    if word == "say":
        return 1
    if word == "ask" or word in LETTERS or is_number(word):
        return 0
    return NO_WORD


def is_number(word):
    """Whether a word is a number from 0 to 999 without a needless 0."""
    if len(word) > MOST_FIGURES or not word.isascii() or not word.isdigit():
        return False
    return word == "0" or not word.startswith("0")


def sum_of_words(words):
    """The sum of words that all can stand where they do."""
    # From the back, so that the parts of each word are there when it comes.
    waiting = []
    for word in reversed(words):
        parts = [waiting.pop() for _ in range(parts_wanted(word))]
        waiting.append(begun_with(word, parts))
    return waiting[0]


def begun_with(word, parts):
    """The sum of a word and the parts behind it."""
    if word in LETTERS:
        return ("name", word)
    if is_number(word):
        return ("num", int(word))
    return (word, *parts)
