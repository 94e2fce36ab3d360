"""The refusals."""


class KeepError(ValueError):
    """Any refusal."""


class BadNumber(KeepError):
    """What was handed in is no number that a word can tell."""


class BadWord(KeepError):
    """What was handed in is no word."""


class BadCount(KeepError):
    """What was handed in is no size, count or age that is wanted there."""


class NoPlace(KeepError):
    """What was handed in is no place, or a stretch from it on sticks out."""


class NoRoom(KeepError):
    """There are too few free words."""


class NoSlot(KeepError):
    """The cell has no such slot."""


class NoCell(KeepError):
    """No cell stands there."""


class NoHand(KeepError):
    """There is no such hand."""


class NothingHeld(KeepError):
    """The hand holds no cell."""


class NoName(KeepError):
    """There is no such name or ticket."""


class NoDeed(KeepError):
    """What was handed in writes no deed."""


class NoImage(KeepError):
    """What was handed in is no image of a keeper."""


class NoProgram(KeepError):
    """What was handed in is no program."""
