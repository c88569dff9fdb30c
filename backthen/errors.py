"""The errors of the package."""


class TaleError(ValueError):
    """The base class of all errors of the package."""


class InvalidTale(TaleError):
    """A tale that is none: problem is what check_tale returns."""

    def __init__(self, problem=None):
        self.problem = problem


class InvalidTimeline(TaleError):
    """A timeline that is none: problem is what check_timeline returns."""

    def __init__(self, problem=None):
        self.problem = problem


class InvalidTellers(TaleError):
    """Tellers that are none: problem is what check_tellers returns."""

    def __init__(self, problem=None):
        self.problem = problem


class InvalidReport(TaleError):
    """A report that is none: problem is what check_report returns."""

    def __init__(self, problem=None):
        self.problem = problem


class InvalidText(TaleError):
    """A text that cannot be read: line is the number of its first bad line."""

    def __init__(self, line=None):
        self.line = line


class UnknownMoment(TaleError):
    """A name that no moment of the tale has."""

    def __init__(self, name=None):
        self.name = name


class InvalidName(TaleError):
    """A teller whose name is no name."""

    def __init__(self, name=None):
        self.name = name


class Conflict(TaleError):
    """Tellers that contradict each other: ring is the evidence."""

    def __init__(self, ring=None):
        self.ring = ring


class OutOfRange(TaleError):
    """A number that no timeline has: count is how many timelines there are."""

    def __init__(self, count=None):
        self.count = count


class NoFit(TaleError):
    """A report that does not fit the tale: number is where it does not."""

    def __init__(self, number=None):
        self.number = number


class Mismatch(TaleError):
    """Reports that differ: number is that of the sentence in which they do."""

    def __init__(self, number=None):
        self.number = number


class InvalidPlace(TaleError):
    """Places that are none: index is that of the first bad one."""

    def __init__(self, index=None):
        self.index = index


class InvalidAnswer(TaleError):
    """An answer that names neither moment of the question."""

    def __init__(self, first=None):
        self.first = first


class NoRoad(TaleError):
    """The tale has no road."""


class NoConflict(TaleError):
    """The tellers are consistent together."""


class TooManyTellers(TaleError):
    """There would be more than six tellers."""


class NothingToUndo(TaleError):
    """Nothing is left that could be taken back."""


class TooLarge(TaleError):
    """The tale has too many groups for the call."""


class NotForest(TaleError):
    """The cycle rank of the tale is not 0."""


class NothingKnown(TaleError):
    """There is no knowledge of the two moments that could be lost."""


class NoQuestion(TaleError):
    """There is no question to answer."""
