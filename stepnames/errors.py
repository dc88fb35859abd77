"""The refusals of stepnames."""


class StepError(ValueError):
    """Any refusal."""


class BadSum(StepError):
    """A tuple that is no sum."""


class BadSteps(StepError):
    """A list that is no steps; number counts, from 0, the first step that cannot be."""

    def __init__(self, number):
        super().__init__(f"step {number} cannot be")
        self.number = number


class NoName(StepError):
    """A name that no number was handed in for."""


class NoMore(StepError):
    """More asks than numbers given."""


class NoSum(StepError):
    """Steps that no sum stands behind."""


class BadText(StepError):
    """A text that is no sum written down; place counts, from 0, the word that cannot stand there."""

    def __init__(self, place):
        super().__init__(f"word {place} cannot stand there")
        self.place = place
