"""All errors that the package raises."""


class DeedError(ValueError):
    """Any error of this package."""


class BadValue(DeedError):
    """An argument that is not as described."""

    def __init__(self, value):
        self.value = value


class TooDeep(DeedError):
    """Something is deeper than this."""

    def __init__(self, most):
        self.most = most


class TooMany(DeedError):
    """There are more than this."""

    def __init__(self, most):
        self.most = most


class NotAText(DeedError):
    """A text is right up to this length only."""

    def __init__(self, at):
        self.at = at


class WrongStep(DeedError):
    """The number of the first wrong step."""

    def __init__(self, at):
        self.at = at


class Unlike(DeedError):
    """Two things that should be like each other are not."""


class Unknown(DeedError):
    """Nothing has this name."""

    def __init__(self, name):
        self.name = name


class Taken(DeedError):
    """Something has this name already."""

    def __init__(self, name):
        self.name = name


class NotAFile(DeedError):
    """The text of a file is right up to this place only."""

    def __init__(self, line, at):
        self.line = line
        self.at = at


class BadPromise(DeedError):
    """A text that is no promise."""

    def __init__(self, promise):
        self.promise = promise


class Broken(DeedError):
    """A promise that would not hold, with its paper of no."""

    def __init__(self, promise, paper):
        self.promise = promise
        self.paper = paper


class NotMade(DeedError):
    """A promise that was not made."""

    def __init__(self, promise):
        self.promise = promise


class NothingToUndo(DeedError):
    """There is no edit to take back."""


class NothingToRedo(DeedError):
    """There is no edit to do again."""


class CannotTake(DeedError):
    """Nothing can be taken at this end."""

    def __init__(self, end):
        self.end = end


class NotOfDeed(DeedError):
    """These wirings come of no deed."""


class WrongTerm(DeedError):
    """The path of the first wrong term."""

    def __init__(self, path):
        self.path = path


class NotOfProgram(DeedError):
    """The number of the first end that is neither given nor taken."""

    def __init__(self, at):
        self.at = at


class HasHand(DeedError):
    """The number of the first hand on."""

    def __init__(self, at):
        self.at = at
