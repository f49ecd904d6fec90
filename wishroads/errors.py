"""The errors that the program raises."""


class PlanError(ValueError):
    """The base of all errors of the program."""


class BadTask(PlanError):
    """A value is no task; word tells what is wrong first."""

    def __init__(self, word):
        PlanError.__init__(self, "this is no task")
        self.word = word


class BadState(PlanError):
    """A value is no state of the task."""

    def __init__(self):
        PlanError.__init__(self, "this is no state of the task")


class BadDeed(PlanError):
    """A value names no deed that can be done; index is its place in a row of names, or None."""

    def __init__(self, index):
        PlanError.__init__(self, "this names no deed that can be done")
        self.index = index


class BadPlan(PlanError):
    """A value is no plan of the task."""

    def __init__(self):
        PlanError.__init__(self, "this is no plan of the task")


class BadFacts(PlanError):
    """A value is not made of facts of the task as it must be."""

    def __init__(self):
        PlanError.__init__(self, "these are no facts of the task")


class BadNumber(PlanError):
    """A value is none of those that may stand in its place."""

    def __init__(self):
        PlanError.__init__(self, "this value can't stand here")


class BadText(PlanError):
    """A value is not the text of a world; line is the number of the first wrong line."""

    def __init__(self, line):
        PlanError.__init__(self, "this is not the text of a world")
        self.line = line


class TooMany(PlanError):
    """There are more than most of something."""

    def __init__(self, most):
        PlanError.__init__(self, "there are too many")
        self.most = most


class NothingBack(PlanError):
    """There is no deed that can be taken back."""

    def __init__(self):
        PlanError.__init__(self, "there is nothing to take back")
