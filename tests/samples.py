"""Sums and steps that several tests use."""

NUM = ("num", 1)
ASK = ("ask",)

# None of these is a sum; only the last few are wrong deep within.
BAD_SUMS = [
    (), ("",), ("a",), ("nums", 1), ("sub", NUM, NUM), ("Add", NUM, NUM), ("", NUM, NUM),
    ("numname", 1), ("asks",), ("as",), ("ad", NUM, NUM), ("minus", NUM, NUM), ("both", NUM),
    (5,), (5, 1), (0, NUM, NUM), (NUM,), (("add",), NUM, NUM), ((),), (("ask",),), (("num",), 1),
    ("num",), ("num", 1, 2), ("num", -1), ("num", 1000), ("num", 10 ** 29), ("num", -(10 ** 29)),
    ("num", "5"), ("num", ""), ("num", "a"), ("num", NUM), ("num", ()), ("num", True), ("num", False),
    ("num", 1, "a"), ("num", 1, ()),
    ("name",), ("name", "a", "b"), ("name", "g"), ("name", "z"), ("name", ""), ("name", "ab"),
    ("name", "abcdef"), ("name", "A"), ("name", " "), ("name", "a "), ("name", 1), ("name", 0),
    ("name", ("name", "a")), ("name", ("a",)), ("name", ()), ("name", "a", ()),
    ("add",), ("add", NUM), ("add", NUM, NUM, NUM), ("add", "num", NUM), ("add", NUM, "num"),
    ("add", "", NUM), ("add", NUM, ""), ("add", 5, NUM), ("add", NUM, 5), ("add", 1, 1),
    ("add", NUM, ()), ("add", (), NUM), ("add", "a", "a"), ("add", "ask", NUM),
    ("less",), ("less", NUM), ("less", NUM, NUM, NUM), ("less", NUM, "ask"), ("less", 5, NUM),
    ("less", NUM, ()), ("less", "", ""),
    ("times",), ("times", NUM), ("times", NUM, NUM, NUM), ("times", "ask", NUM), ("times", NUM, 5),
    ("times", (), NUM),
    ("say",), ("say", NUM, NUM), ("say", "ask"), ("say", ""), ("say", 7), ("say", ()), ("say", "a"),
    ("ask", 1), ("ask", NUM), ("ask", ""), ("ask", ()), ("ask", "a"), ("ask", ASK),
    ("say", ("say", ("say", ("num", 1000)))),
    ("add", ("less", NUM, ("times", ("say", ("name", "g")), NUM)), NUM),
    ("times", NUM, ("add", NUM, ("less", NUM, ("ask", 1)))),
]

# None of these can stand behind steps that filled just the boxes 0 and 1.
BAD_STEPS = [
    (), (5,), (0,), ("num",), ("num", 3), ("add", 0, 1), ("ask",), ("", 5),
    (-1, "num", 3), (200, "num", 3), (201, "ask"), (10 ** 29, "num", 3), (-(10 ** 29), "ask"),
    ("0", "num", 3), ("", "num", 3), ("a", "ask"), (True, "num", 3), (False, "ask"),
    (5, 3), (5, "", 3), (5, "a"), (5, "sub", 0, 1), (5, "", 0, 1), (5, "Add", 0, 1), (5, 0, 1),
    (5, "adds", 0, 1), (5, 3, "num"), (5, 5, "num", 3), ("num", 5, 3),
    (5, "num"), (5, "num", 3, 4), (5, "num", -1), (5, "num", 1000), (5, "num", 10 ** 29),
    (5, "num", "3"), (5, "num", ""), (5, "num", True), (5, "num", "a"),
    (5, "name"), (5, "name", "a", "b"), (5, "name", "g"), (5, "name", ""), (5, "name", "ab"),
    (5, "name", "A"), (5, "name", 0), (5, "name", "a", 0),
    (5, "add"), (5, "add", 0), (5, "add", 0, 1, 0), (5, "add", 0, 2), (5, "add", 2, 0),
    (5, "add", 0, 5), (5, "add", 5, 0), (5, "add", "0", 1), (5, "add", 0, "1"), (5, "add", 0, ""),
    (5, "add", "a", 0), (5, "add", -1, 0), (5, "add", 0, -1), (5, "add", 0, 200),
    (5, "add", 10 ** 29, 0), (5, "add", 0, True),
    (5, "less"), (5, "less", 0), (5, "less", 0, 1, 1), (5, "less", 0, 7), (5, "less", 7, 0),
    (5, "less", 5, 0), (5, "less", "", 0),
    (5, "times"), (5, "times", 0), (5, "times", 0, 1, 1), (5, "times", 199, 0),
    (5, "times", 0, 199), (5, "times", 0, 5), (5, "times", 0, "a"),
    (5, "say"), (5, "say", 2), (5, "say", 5), (5, "say", 0, 1), (5, "say", "0"), (5, "say", ""),
    (5, "say", -1), (5, "say", True), (5, "say", 200),
    (5, "ask", 0), (5, "ask", ""), (5, "ask", 0, 1), (5, "asks"),
]


def tree(many, leaf=NUM):
    """A shallow sum of so many sums, itself and those within it; of adds alone where many is odd."""
    if many == 1:
        return leaf
    if many == 2:
        return ("say", leaf)
    odd = (many - 1) // 2 | 1
    return ("add", tree(odd, leaf), tree(many - 1 - odd, leaf))


def chain(many, leaf=NUM):
    """A sum of so many sums within one another: says around a leaf."""
    for _ in range(many - 1):
        leaf = ("say", leaf)
    return leaf


def counting_steps(many):
    """So many steps, each in a box of its own as long as there are boxes."""
    return [(at % 200, "num", at % 1000) for at in range(many)]


def parts(part):
    """The parts of a sum, in their order."""
    return [inner for inner in part[1:] if isinstance(inner, tuple)]


def within(part):
    """A sum and those within it, each behind its parts."""
    return [one for inner in parts(part) for one in within(inner)] + [part]


def effective(part):
    """Whether a sum has an effect."""
    return any(one[0] in ("say", "ask") for one in within(part))


def plain_steps(part):
    """A step for each sum within a sum, of so many as one likes, boxes 0, 1, 2 and on."""
    steps = []

    def put(here):
        boxes = [put(inner) for inner in parts(here)]
        steps.append((len(steps), here[0], *boxes) if boxes else (len(steps), *here))
        return len(steps) - 1

    put(part)
    return steps


def small_sums(most, leaves=(NUM, ASK), words=("less",)):
    """All sums of one to so many sums, of these leaves, these words with two parts, and say."""
    of_size = {1: list(leaves)}
    for size in range(2, most + 1):
        of_size[size] = [("say", inner) for inner in of_size[size - 1]]
        for first in range(1, size - 1):
            of_size[size] += [(word, one, other) for word in words
                              for one in of_size[first] for other in of_size[size - 1 - first]]
    return [part for size in of_size for part in of_size[size]]


# With effects in both parts, in one of them, and in none; the steps of all can be run with names and given below.
SUMS = [
    NUM, ASK, ("name", "a"), ("num", 0), ("num", 999), ("say", NUM), ("say", ASK),
    ("add", ("say", ("name", "a")), ASK),
    ("less", ("say", ("num", 5)), ("say", ("num", 6))),
    ("less", ("say", ASK), ("say", ("times", ASK, ("name", "b")))),
    ("times", ("add", NUM, ("name", "f")), ("less", ("name", "c"), ("num", 999))),
    ("less", ("num", 3), ("add", ("name", "a"), ("times", ("name", "a"), ("num", 3)))),
    ("add", ("num", 7), ("less", ASK, ("times", ("say", ("name", "d")), ("name", "e")))),
    ("less", ("add", ("say", ASK), ASK), ("times", ("say", ("less", ASK, ASK)), ("say", ASK))),
    ("say", ("less", ("say", ("add", ASK, ("num", 999))), ("say", ("say", ("times", ASK, ("num", 30)))))),
    chain(15), chain(15, ASK), tree(60), tree(59, ASK), ("add", chain(14, ASK), tree(45, ("name", "f"))),
]
NAMES = {"a": 10, "b": 11, "c": 12, "d": 130, "e": 400, "f": 999}
GIVEN = list(range(3, 183, 3))
