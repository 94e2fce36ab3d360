"""Notes: deeds written as lines of text."""

from cellkeep.errors import NoDeed

# How many numbers stand behind each deed's word.
NUMBERS_BEHIND = {
    "make": 2, "keep": 2, "share": 2, "drop": 1, "read": 1, "take": 3, "put": 3,
    "name": 1, "find": 2, "last": 2, "young": 0, "all": 0, "said": 0,
}
FIGURES = "0123456789"
MOST_FIGURES = 60


def line_of(deed):
    return " ".join([str(part) for part in deed])


def deed_of(line):
    if not isinstance(line, str):
        raise NoDeed("a deed is written as a text")
    parts = line.split(" ")
    word = parts[0]
    if word not in NUMBERS_BEHIND or len(parts) - 1 != NUMBERS_BEHIND[word]:
        raise NoDeed("no deed is written so")
    numbers = numbers_of(parts[1:])
    if numbers is None:
        raise NoDeed("a number of the deed is not written as one")
    return tuple([word] + numbers)


def numbers_of(texts):
    """The numbers that texts write; None where one of them writes none."""
    if not all([is_written(text) for text in texts]):
        return None
    return [int(text) for text in texts]


def is_written(text):
    """Whether a text writes a number: by figures, without noughts ahead, - ahead of those below nought."""
    if text == "0":
        return True
    figures = text[1:] if text.startswith("-") else text
    if len(figures) > MOST_FIGURES or figures == "" or figures.startswith("0"):
        return False
    # One by one, since isdigit also takes signs that are none of these ten.
    return all([sign in FIGURES for sign in figures])
