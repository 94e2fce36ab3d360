"""Images: a keeper written as seven rows, and read from them."""

from cellkeep.errors import KeepError, NoImage
from cellkeep.keeper import Keeper
from cellkeep.notes import line_of, numbers_of
from cellkeep.sound import wanted_places

WORDS_OF_ROWS = ("image", "old", "young", "hands", "names", "tickets", "said")
GONE = -1


def image_of(keeper):
    areas = keeper.heap.areas
    roots = keeper.heap.roots
    rows = [
        head_of(keeper), used_words(areas.memory, areas.old), used_words(areas.memory, areas.young),
        roots.hands.row(), places_of(roots.weaks), tickets_of(roots.lasts), roots.lasts.said(),
    ]
    return [line_of([word] + numbers) for word, numbers in zip(WORDS_OF_ROWS, rows)]


def head_of(keeper):
    areas = keeper.heap.areas
    behind = 1 if areas.young.begin > areas.spare.begin else 0
    return [len(keeper.heap.roots.hands.row()), areas.old.extent(), areas.young.extent(), behind]


def used_words(memory, space):
    return [memory.read(at) for at in range(space.begin, space.top)]


def places_of(weaks):
    return [GONE if at is None else at for at in weaks.row()]


def tickets_of(lasts):
    numbers = []
    for ticket in lasts.pending():
        numbers.extend(ticket)
    return numbers


def keeper_of(lines):
    if not isinstance(lines, list) or len(lines) != len(WORDS_OF_ROWS):
        raise NoImage("an image is a list of seven rows")
    rows = {}
    for word, line in zip(WORDS_OF_ROWS, lines):
        rows[word] = numbers_behind(word, line)
    try:
        keeper = filled(rows)
    except KeepError:
        raise NoImage("some number of the image is none that is wanted there") from None
    if keeper.unsound() != []:
        raise NoImage("the keeper would be unsound")
    return keeper


def numbers_behind(word, line):
    """The numbers of a row that begins with this word."""
    if not isinstance(line, str):
        raise NoImage("a row of an image is a text")
    parts = line.split(" ")
    numbers = numbers_of(parts[1:])
    if parts[0] != word or numbers is None:
        raise NoImage("a row of an image is not written as one")
    return numbers


def filled(rows):
    """The keeper of these rows, from their words to their numbers; refused where its parts refuse them."""
    keeper = empty_keeper(rows["image"])
    areas = keeper.heap.areas
    roots = keeper.heap.roots
    fill_space(areas.memory, areas.old, rows["old"])
    fill_space(areas.memory, areas.young, rows["young"])
    fill_hands(roots.hands, rows["hands"])
    fill_names(roots.weaks, rows["names"])
    roots.lasts.refill(pending_of(rows["tickets"], len(rows["said"])), rows["said"])
    # The book has no row of its own: what stands in the slots tells it.
    for place in wanted_places(areas):
        roots.book.write(place)
    return keeper


def empty_keeper(head):
    if len(head) != 4 or head[3] not in (0, 1):
        raise NoImage("no counts of a keeper")
    keeper = Keeper(head[0], head[1], head[2])
    if head[3] == 1:
        keeper.heap.areas.flip()
    return keeper


def fill_space(memory, space, words):
    # Cut first: so words too many are refused ahead of being written into another space.
    space.cut(space.begin + len(words))
    for step, word in enumerate(words):
        memory.write(space.begin + step, word)


def fill_hands(hands, words):
    if len(words) != len(hands.row()):
        raise NoImage("too few or too many words for the hands")
    for hand, word in enumerate(words):
        hands.put(hand, word)


def fill_names(weaks, names):
    for at in names:
        if at == GONE:
            # Any place does: it is gone at once, and only its number is used up.
            weaks.gone(weaks.name(0))
        else:
            weaks.name(at)


def pending_of(tickets, said):
    """Tuples of the tickets of a row; refused where they can't be those of a keeper that said so many."""
    if len(tickets) % 3 != 0:
        raise NoImage("a ticket has three numbers")
    pending = [tuple(tickets[at:at + 3]) for at in range(0, len(tickets), 3)]
    least = 0
    for ticket, at, number in pending:
        if not least <= ticket < len(pending) + said:
            raise NoImage("tickets rise, and are below the count of pending and said ones")
        least = ticket + 1
    return pending
