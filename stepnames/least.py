"""Steps of a sum with the fewest boxes in any order that keeps effects."""

from stepnames.forms import filled_with, is_effect, parts_of
from stepnames.sums import refuse_bad_sum


class Way:
    """The way to the fewest boxes for a sum: for each sum within it, which part goes ahead."""

    def __init__(self, part):
        self.part = part
        self.inner = [Way(one) for one in parts_of(part)]
        effects = [way.effect for way in self.inner]
        self.effect = is_effect(part) or any(effects)
        straight = boxes_in_order(self.inner)
        turned = boxes_in_order(self.inner[::-1])
        self.turned = turned < straight and not all(effects)
        self.many = turned if self.turned else straight


def least(part):
    """The fewest boxes that steps of a sum have, and such steps."""
    refuse_bad_sum(part)
    way = Way(part)
    steps = []
    put_steps(way, 0, steps)
    return way.many, steps


def boxes_in_order(ways):
    """How many boxes a sum wants whose parts' steps stand in this order."""
    # While one part is worked out, each part ahead of it holds a box.
    return max([1] + [way.many + held for held, way in enumerate(ways)])


def put_steps(way, box, steps):
    """Adds the steps that put the sum of this way in this box."""
    order = way.inner[::-1] if way.turned else way.inner
    for at, inner in enumerate(order):
        put_steps(inner, box + at, steps)
    boxes = list(range(box, box + len(order)))
    if way.turned:
        boxes.reverse()
    steps.append((box, *filled_with(way.part, boxes)))
