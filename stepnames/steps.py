"""Steps: which lists are steps, what they come to, and how many boxes they have."""

from stepnames.errors import BadSteps
from stepnames.forms import has_form, is_whole, parts_of
from stepnames.working import Effects, comes_to, refuse_lacks

MOST_STEPS = 200
LAST_BOX = 199


def run(steps, names, given):
    """What the last step comes to, the list of numbers said, and how many were asked for."""
    refuse_bad_steps(steps)
    refuse_lacks([step[1:] for step in steps], names, given)
    effects = Effects(given)
    held = {}
    for step in steps:
        part = step[1:]
        worths = [held[box] for box in parts_of(part)]
        held[step[0]] = comes_to(part, worths, names, effects)
    last_box = steps[-1][0]
    return held[last_box], effects.said, effects.asked


def boxes(steps):
    """How many unlike boxes steps have."""
    refuse_bad_steps(steps)
    return len({step[0] for step in steps})


def refuse_bad_steps(steps):
    """Refuses lists that are no steps."""
    if len(steps) == 0:
        raise BadSteps(0)
    filled = {}
    for number, step in enumerate(steps):
        if number == MOST_STEPS or not can_be(step, filled):
            raise BadSteps(number)
        filled[step[0]] = True


def can_be(step, filled):
    """Whether a step can stand behind those that filled these boxes."""
    if len(step) == 0 or not is_whole(step[0], LAST_BOX):
        return False
    part = step[1:]
    if not has_form(part):
        return False
    # The check for a number stands first, for True would be found as box 1.
    return all([is_whole(box, LAST_BOX) and box in filled for box in parts_of(part)])
