"""Playing: deeds, written as lines, done on a keeper, and its answers."""

from cellkeep.errors import BadCount, BadNumber, KeepError, NoHand, NoName, NoRoom, NoSlot, NothingHeld
from cellkeep.keeper import Keeper
from cellkeep.notes import deed_of


def played(hands, old_words, young_words, lines):
    keeper = Keeper(hands, old_words, young_words)
    return [answer_to(keeper, line) for line in lines]


def answer_to(keeper, line):
    try:
        return answer_of(keeper, deed_of(line))
    except KeepError as error:
        return refusal_of(error)


def answer_of(keeper, deed):
    """Does a deed, and tells the answer to it."""
    word = deed[0]
    if word == "read":
        return shown(keeper.read(deed[1]))
    if word == "name":
        name = keeper.name_cell(deed[1])
        return f"name {name}"
    if word == "find":
        return "found" if keeper.find(deed[1], deed[2]) else "gone"
    if word == "said":
        return " ".join(["said"] + [str(number) for number in keeper.said()])
    do(keeper, deed)
    return "done"


def do(keeper, deed):
    word = deed[0]
    if word == "make":
        keeper.make(deed[1], deed[2])
    elif word == "keep":
        keeper.keep(deed[1], deed[2])
    elif word == "share":
        keeper.share(deed[1], deed[2])
    elif word == "drop":
        keeper.drop(deed[1])
    elif word == "take":
        keeper.take(deed[1], deed[2], deed[3])
    elif word == "put":
        keeper.put(deed[1], deed[2], deed[3])
    elif word == "last":
        keeper.give_last(deed[1], deed[2])
    elif word == "young":
        keeper.tidy()
    elif word == "all":
        keeper.tidy_all()


def shown(held):
    if held is None:
        return "nothing"
    if held == "cell":
        return "cell"
    return f"number {held}"


def refusal_of(error):
    if isinstance(error, BadNumber):
        return "no number"
    if isinstance(error, BadCount):
        return "no count"
    if isinstance(error, NoRoom):
        return "no room"
    if isinstance(error, NoSlot):
        return "no slot"
    if isinstance(error, NoHand):
        return "no hand"
    if isinstance(error, NothingHeld):
        return "nothing held"
    if isinstance(error, NoName):
        return "no name"
    return "no deed"
