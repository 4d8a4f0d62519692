"""The errors of the package: one class for each kind of refusal."""


class IdleError(ValueError):
    """The base class of all errors."""


class PaperError(IdleError):
    """The family of the errors about papers."""


class BookError(IdleError):
    """The family of the errors about books and what is asked of them."""


class LiveError(IdleError):
    """The family of the errors about objects that change."""


class TextError(IdleError):
    """The family of the errors about lines."""


class InvalidPaper(PaperError):
    """A checker refuses what it was shown; at tells the place."""

    def __init__(self, word, at):
        self.word = word
        self.at = at


class NotUsable(BookError):
    """The parameter with this name is not as stated."""

    def __init__(self, word, at):
        self.word = word
        self.at = at


class NotPlain(BookError):
    """This pair claims against a dealing that should be plain."""

    def __init__(self, pair):
        self.pair = pair


class Claimed(BookError):
    """This pair of a plain dealing claims against the other dealing."""

    def __init__(self, pair):
        self.pair = pair


class NotTold(BookError):
    """This pair is not a told pair of the book."""

    def __init__(self, pair):
        self.pair = pair


class NotIdle(BookError):
    """This pair is rightful where an idle one is asked."""

    def __init__(self, pair):
        self.pair = pair


class Crowded(BookError):
    """This school has more seats than one where one each is asked."""

    def __init__(self, school):
        self.school = school


class InvalidEvent(LiveError):
    """An office refuses this event for this reason."""

    def __init__(self, event, reason):
        self.event = event
        self.reason = reason


class NothingToUndo(LiveError):
    """There are fewer steps to take back than were asked for."""

    def __init__(self, steps):
        self.steps = steps


class InvalidText(TextError):
    """This field of this line is wrong or lacking."""

    def __init__(self, line, field):
        self.line = line
        self.field = field


class InvalidRow(TextError):
    """The field with this number tells something that is not there."""

    def __init__(self, row):
        self.row = row
