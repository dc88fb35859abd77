"""Steps of a sum in the order told: plain ones, tight ones, and those that name each part once."""

from stepnames.forms import filled_with, is_effect, parts_of
from stepnames.sums import refuse_bad_sum


def cut(part):
    """One step for each sum within a sum, each with a box of its own."""
    refuse_bad_sum(part)
    steps = []
    put_cut(part, steps)
    return steps


def tight(part):
    """The steps of cut, in their order, with the fewest boxes."""
    refuse_bad_sum(part)
    steps = []
    put_tight(part, 0, steps)
    return steps


def once(part):
    """The steps of cut, but those of like sums without an effect only once."""
    refuse_bad_sum(part)
    steps = []
    put_once(part, steps, {})
    return steps


def put_cut(part, steps):
    """Adds the plain steps of a sum, and tells the box that it is in."""
    boxes = [put_cut(inner, steps) for inner in parts_of(part)]
    return put_next(filled_with(part, boxes), steps)


def put_next(rest, steps):
    """Adds a step, of which this is the rest, with the next box, and tells that box."""
    box = len(steps)
    steps.append((box, *rest))
    return box


def put_tight(part, box, steps):
    """Adds the steps of a sum that put it in this box."""
    boxes = []
    for at, inner in enumerate(parts_of(part)):
        put_tight(inner, box + at, steps)
        boxes.append(box + at)
    steps.append((box, *filled_with(part, boxes)))


def put_once(part, steps, known):
    """Adds the steps of a sum that are not known yet, and tells the box that it is in."""
    boxes = [put_once(inner, steps, known) for inner in parts_of(part)]
    # Sums without an effect are alike just if their rests are: like parts are in one box.
    # A part with an effect has a box of its own, so what it is a part of is like nothing else.
    rest = filled_with(part, boxes)
    if rest in known:
        return known[rest]
    box = put_next(rest, steps)
    if not is_effect(part):
        known[rest] = box
    return box
