"""Put back: the sum that steps are, if they are one."""

from stepnames.errors import BadSum, NoSum
from stepnames.forms import filled_with, is_effect, parts_of
from stepnames.steps import refuse_bad_steps
from stepnames.sums import refuse_bad_sum


def put_back(steps):
    """The sum that steps are."""
    refuse_bad_steps(steps)
    held = {}
    for number, step in enumerate(steps):
        found = put_together(step[1:], number, held)
        if step[0] in held:
            raise NoSum(f"step {number} puts something in a box with what is not used yet")
        held[step[0]] = found
    if len(held) > 1:
        raise NoSum("a step ahead of the last is not used")
    part, effects = held[steps[-1][0]]
    if effects != sorted(effects):
        raise NoSum("the effects do not stand in the order of the steps")
    refuse_no_sum(part)
    return part


def put_together(rest, number, held):
    """The sum that a step comes to, with the numbers of the steps of its effects, in the sum's order.

    What the step uses is held no more.
    """
    parts = []
    effects = []
    for box in parts_of(rest):
        # The box was filled, or the steps would be bad: what was in it is used by now.
        if box not in held:
            raise NoSum(f"step {number} uses what is used already")
        part, inner_effects = held.pop(box)
        parts.append(part)
        effects.extend(inner_effects)
    if is_effect(rest):
        effects.append(number)
    return filled_with(rest, parts), effects


def refuse_no_sum(part):
    """Refuses what steps were put together to, if it has too many sums, or too many within one another."""
    try:
        refuse_bad_sum(part)
    except BadSum:
        raise NoSum("the steps are more than a sum may have") from None
