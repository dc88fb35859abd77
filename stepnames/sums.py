"""Sums: which tuples are sums, what they come to, and which have an effect."""

from stepnames.errors import BadSum
from stepnames.forms import has_form, is_effect, parts_of
from stepnames.working import Effects, comes_to, refuse_lacks

MOST_SUMS = 60
MOST_WITHIN = 15


def worth(part, names, given):
    """What a sum comes to, the list of numbers it says, and how many it asks for."""
    refuse_lacks(sums_within(part), names, given)
    effects = Effects(given)
    number = worked_out(part, names, effects)
    return number, effects.said, effects.asked


def has_effect(part):
    """Whether a sum, or one within it, says a number or asks for one."""
    return any([is_effect(inner) for inner in sums_within(part)])


def refuse_bad_sum(part):
    """Refuses tuples that are no sum."""
    sums_within(part)


def sums_within(part):
    """A sum and all the sums within it, in no told order; BadSum for what is none."""
    found = []
    # No recursion, and both limits at each sum: what goes far beyond them is refused soon.
    waiting = [(part, 1)]
    while waiting:
        here, level = waiting.pop()
        if len(found) == MOST_SUMS or level > MOST_WITHIN or not has_form(here):
            raise BadSum("this is no sum")
        found.append(here)
        waiting.extend([(inner, level + 1) for inner in parts_of(here)])
    return found


def worked_out(part, names, effects):
    """The number that a sum comes to, all that it needs being there."""
    worths = [worked_out(inner, names, effects) for inner in parts_of(part)]
    return comes_to(part, worths, names, effects)
