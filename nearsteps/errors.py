"""The errors of the package; `thing` is the value that was wrong."""


class StepError(Exception):
    """The base class of all errors of the package."""


class BadTable(StepError):
    """A value is no table."""

    def __init__(self, thing):
        self.thing = thing


class BadForm(StepError):
    """A value is no form."""

    def __init__(self, thing):
        self.thing = thing


class BadStep(StepError):
    """A value is no step, or not such a step as is asked for."""

    def __init__(self, thing):
        self.thing = thing


class BadChange(StepError):
    """A value is no change."""

    def __init__(self, thing):
        self.thing = thing


class BadSpot(StepError):
    """A value is no spot."""

    def __init__(self, thing):
        self.thing = thing


class BadNumber(StepError):
    """A value is not such an integer as is asked for."""

    def __init__(self, thing):
        self.thing = thing


class BadFraction(StepError):
    """A value is not such a fraction as is asked for."""

    def __init__(self, thing):
        self.thing = thing


class BadList(StepError):
    """A value is not such a tuple of steps as is asked for."""

    def __init__(self, thing):
        self.thing = thing


class BadCoarse(StepError):
    """A value is no coarse table."""

    def __init__(self, thing):
        self.thing = thing
