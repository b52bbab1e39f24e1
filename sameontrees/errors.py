"""The errors that this package raises, each directly under TreeError."""


class TreeError(ValueError):
    """Any error of this package."""


class BadKinds(TreeError):
    """What should be kinds is none."""


class BadKind(TreeError):
    """What should be the name of one of the kinds is none."""


class BadTree(TreeError):
    """What should be the words of a tree of a kind is none."""


class BadRows(TreeError):
    """What should be rows of kinds is none."""


class TooGreat(TreeError):
    """What would be returned, or is needed for it, is beyond a bound."""


class BadProgram(TreeError):
    """What should be a program is none."""


class NotChecked(TreeError):
    """The program does not pass its check; what is the check's result."""

    def __init__(self, what):
        TreeError.__init__(self, "the program does not pass its check")
        self.what = what


class BadName(TreeError):
    """What should be the name of something there is none."""


class BadText(TreeError):
    """The text is none of a program; place is where it goes wrong."""

    def __init__(self, place):
        TreeError.__init__(self, f"the text is none of a program, by the sign at {place}")
        self.place = place


class BadForm(TreeError):
    """What should be a form is none."""


class BadVector(TreeError):
    """What should be a vector is none."""


class BadMatrix(TreeError):
    """What should be a matrix is none."""


class Singular(TreeError):
    """The matrix has no inverse."""


class Unlike(TreeError):
    """Arguments that should fit each other do not."""


class BadContext(TreeError):
    """What should be a context is none."""


class NotSame(TreeError):
    """The forms do not tell the same; part tells a tree that parts them."""

    def __init__(self, part):
        TreeError.__init__(self, "the forms do not tell the same of all trees")
        self.part = part


class NotLeast(TreeError):
    """The form has more coordinates than its least form."""


class BadLog(TreeError):
    """What should be a log is none."""


class NotLet(TreeError):
    """A step is not let; index is its place in the log."""

    def __init__(self, index):
        TreeError.__init__(self, f"the step with the index {index} is not let")
        self.index = index


class BadRewriter(TreeError):
    """What should be a rewriter is none."""


class BadLimit(TreeError):
    """What should be the greatest size to count to is none."""


class HasNumbers(TreeError):
    """Trees with number fields are more than can be counted."""
