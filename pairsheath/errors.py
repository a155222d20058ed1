"""The refusals of the program, one class for each."""


class WebError(ValueError):
    """Any refusal."""


class TooMany(WebError):
    """More or fewer points, or more wanted ties, than a web may have."""


class BadTie(WebError):
    """An end of a tie is no point, or both ends are alike."""


class Twice(WebError):
    """Two points are tied a second time."""


class NoTie(WebError):
    """Two points are not tied."""


class BelowNought(WebError):
    """A tie has a weight below nought."""


class Apart(WebError):
    """The ties are not all in one part, or home is not among their ends."""


class BadText(WebError):
    """A text is not a web's."""


class BadRow(WebError):
    """A row is not one that the desk knows."""


class NoName(WebError):
    """A name is not there."""


class Taken(WebError):
    """A new name is there already."""
