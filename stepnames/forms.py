"""The forms that sums and steps have in common.

A step behind its box has the form of a sum: only, boxes stand where the sum has its parts.
"""

LETTERS = ("a", "b", "c", "d", "e", "f")
LARGEST = 999
WORDS_WITH_TWO_PARTS = ("add", "less", "times")


def is_whole(found, most):
    """Whether what was found is a whole number from 0 to most."""
    # True and False would pass as numbers under isinstance.
    return type(found) is int and 0 <= found <= most


def has_form(part):
    """Whether a part begins with a word and has as much behind it as the word wants.

    What stands in the places of its own parts is not looked at.
    """
    if not isinstance(part, tuple) or len(part) == 0:
        return False
    word = part[0]
    if word == "num":
        return len(part) == 2 and is_whole(part[1], LARGEST)
    if word == "name":
        return len(part) == 2 and part[1] in LETTERS
    if word in WORDS_WITH_TWO_PARTS:
        return len(part) == 3
    if word == "say":
        return len(part) == 2
    return word == "ask" and len(part) == 1


def parts_of(part):
    """The parts (of a step: the boxes) of what has the form of a sum, in their order."""
    if part[0] == "say" or part[0] in WORDS_WITH_TWO_PARTS:
        return part[1:]
    return ()


def filled_with(part, filling):
    """What has the form of a sum, with this filling in the places of its own parts (or boxes)."""
    if len(filling) == 0:
        return part
    return (part[0], *filling)


def is_effect(part):
    """Whether what has the form of a sum is an effect itself."""
    return part[0] == "say" or part[0] == "ask"
