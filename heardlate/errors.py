"""The errors of the package: some take a message, the others take one value and keep it."""


class PlanError(ValueError):
    """The base of all errors that take a message."""


class InvalidArcs(PlanError):
    """Something is not arcs."""


class InvalidPlan(PlanError):
    """Something is not a plan."""


class InvalidDurations(PlanError):
    """Something is not durations of a plan."""


class InvalidTimes(PlanError):
    """Something is not times of a plan."""


class InvalidRun(PlanError):
    """Something is not a run."""


class InvalidPolicy(PlanError):
    """Something is not a policy of a plan."""


class InvalidTable(PlanError):
    """Something is not a table, a fact or a paper of a plan."""


class InvalidTask(PlanError):
    """Something is not a task."""


class InvalidOperation(PlanError):
    """Something cannot be done with these values."""


class InvalidEdit(PlanError):
    """Something is not an edit that a house can make."""


class ParseError(PlanError):
    """Something is not the text of a value."""


class InvalidCommand(PlanError):
    """Something is not a command of the shell."""


class InvalidNumber(IndexError):
    """A value is not one of the integers that may stand there."""

    def __init__(self, value):
        self.value = value


class UnknownName(KeyError):
    """A value is none of the names that may stand there."""

    def __init__(self, name):
        self.name = name


class TooMany(OverflowError):
    """There is more of something than the limit allows."""

    def __init__(self, limit):
        self.limit = limit


class Refuted(ArithmeticError):
    """There is no solution; the paper shows it."""

    def __init__(self, paper):
        self.paper = paper


class Driven(RuntimeError):
    """There is a safe driver; the paper shows it."""

    def __init__(self, paper):
        self.paper = paper


class NothingToUndo(LookupError):
    """There are not so many groups of edits."""

    def __init__(self, many):
        self.many = many
