"""The refusals, each of its own class."""


class PageError(ValueError):
    """Any refusal."""


class BadDisk(PageError):
    """A disk can't have so many pages."""


class NoPage(PageError):
    """There is no page of this number."""


class BadPage(PageError):
    """This is no page."""


class BadCount(PageError):
    """A disk can't be armed with this."""


class Stopped(PageError):
    """The disk stands."""


class BadRow(PageError):
    """These are no values of a row."""


class NoRow(PageError):
    """No row that is there has this name."""


class Full(PageError):
    """The room doesn't do."""


class BadText(PageError):
    """A text can't be read; `line` tells how many rows were read ahead of where it fails."""

    def __init__(self, line):
        super().__init__(f"row {line} can't be read")
        self.line = line
