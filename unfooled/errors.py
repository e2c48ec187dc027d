"""The errors of the package; each keeps its arguments in attributes of their names."""


class LookError(ValueError):
    """The base of what is wrong with a value that was passed."""


class InvalidKind(LookError):
    def __init__(self, word):
        self.word = word


class InvalidReader(LookError):
    def __init__(self, word):
        self.word = word


class InvalidDesign(LookError):
    def __init__(self, word):
        self.word = word


class InvalidText(LookError):
    def __init__(self, at):
        self.at = at


class InvalidEvent(LookError):
    def __init__(self, at):
        self.at = at


class InvalidHarm(LookError):
    """The word is none of the harms."""


class InvalidWord(LookError):
    """The value is no question."""


class InvalidLog(LookError):
    def __init__(self, at):
        self.at = at


class InvalidChange(LookError):
    def __init__(self, word):
        self.word = word


class InvalidCommand(LookError):
    """The desk does not understand."""


class Refused(LookError):
    def __init__(self, at):
        self.at = at


class NoName(KeyError):
    def __init__(self, name):
        self.name = name


class NoStep(IndexError):
    def __init__(self, at):
        self.at = at
