"""All errors of the package, in their families."""


class LedError(ValueError):
    """The base class of all errors."""


class PaperError(LedError):
    """The family of what is told of papers."""


class CallError(LedError):
    """The family of what is told of arguments."""


class BoardError(LedError):
    """The family of what is told of boards."""


class TextError(LedError):
    """The family of what is told of texts."""


class InvalidPaper(PaperError):
    """A checker does not accept a value."""

    def __init__(self, word, at):
        self.word = word
        self.at = at


class NotUsable(CallError):
    """An argument is not as stated."""

    def __init__(self, word, at):
        self.word = word
        self.at = at


class InvalidEvent(BoardError):
    """A board refuses an event."""

    def __init__(self, event, reason):
        self.event = event
        self.reason = reason


class NothingToUndo(BoardError):
    """A board has no event that could be taken back."""

    def __init__(self, steps):
        self.steps = steps


class Broken(BoardError):
    """One of several events is refused."""

    def __init__(self, done):
        self.done = done


class InvalidText(TextError):
    """A text has a line that is not possible."""

    def __init__(self, line, field):
        self.line = line
        self.field = field


class InvalidRow(TextError):
    """A row is none that a desk answers."""

    def __init__(self, row):
        self.row = row
