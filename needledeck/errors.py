"""The refusals: one class for each, all under NeedleError, none under another one."""


class NeedleError(ValueError):
    """Any refusal."""


class NoHoles(NeedleError):
    """What should tell how many holes there are doesn't."""


class NoWord(NeedleError):
    """What should be a word of so many holes is none."""


class NoCount(NeedleError):
    """A number is out of its bounds."""


class NoValue(NeedleError):
    """A field's name or a value's number is not there."""


class NoName(NeedleError):
    """A card's name is none, is there already, or is not there."""


class NoSide(NeedleError):
    """A side is neither "front" nor "back"."""


class NoBack(NeedleError):
    """No deed is left to be undone."""


class NoText(NeedleError):
    """A text can't be read."""


class NoLine(NeedleError):
    """A line is none that a desk knows."""
