"""Errors: all refusals, each straight under one."""


class LookError(ValueError):
    """What all refusals stand under."""


class NoSources(LookError):
    """A look with a gap has no sources."""


class NoReason(LookError):
    """A row that isn't there has no reason."""


class NoChange(LookError):
    """What was handed in is no change, or there is none to be undone."""


class NoAsk(LookError):
    """What was handed in is no ask."""


class Never(LookError):
    """No change does what was asked, whatever the rules."""


class NoLine(LookError):
    """What was said has none of the forms that a desk knows."""


class Two(LookError):
    """Two changes do what was asked, and none costs less."""

    def __init__(self, one, other):
        self.one = one
        self.other = other


class Barred(LookError):
    """A rule bars it; way is a change that the rules ahead of it let, or None."""

    def __init__(self, rule, way):
        self.rule = rule
        self.way = way


class NoText(LookError):
    """A text isn't so written; row is the number of the first row that is wrong."""

    def __init__(self, row):
        self.row = row
