"""Cells: a head and its slots, laid into a memory."""

from cellkeep.errors import BadCount, NoCell, NoPlace, NoSlot
from cellkeep.whole import is_within
from cellkeep.words import NOTHING, kind, number_word, place_word, worth

MOST_SLOTS = 8
MOST_AGE = 2


def want_slots(slots):
    if not is_within(slots, 0, MOST_SLOTS):
        raise BadCount("no count of slots")


def lay(memory, at, slots):
    want_slots(slots)
    if not fits(memory, at, slots):
        raise NoPlace("no place in this memory for such a cell")
    memory.write(at, head_word(slots, 0))
    for place in range(at + 1, at + 1 + slots):
        memory.write(place, NOTHING)


def slots_of(memory, at):
    return head_number(memory, at) // 4


def age_of(memory, at):
    return head_number(memory, at) % 4


def words_of(memory, at):
    return slots_of(memory, at) + 1


def aged(memory, at, age):
    slots = slots_of(memory, at)
    if not is_within(age, 0, MOST_AGE):
        raise BadCount("no age of a cell")
    memory.write(at, head_word(slots, age))


def slot_place(memory, at, slot):
    slots = slots_of(memory, at)
    if not is_within(slot, 0, slots - 1):
        raise NoSlot("the cell has no such slot")
    return at + 1 + slot


def slot_places(memory, at):
    slots = slots_of(memory, at)
    return list(range(at + 1, at + 1 + slots))


def children(memory, at):
    words = [memory.read(place) for place in slot_places(memory, at)]
    return [worth(word) for word in words if kind(word) == "place"]


def send(memory, at, goal):
    # Asked only for its refusals, which come ahead of the goal's.
    head_number(memory, at)
    memory.write(at, place_word(goal))


def sent_to(memory, at):
    word = memory.read(at)
    if kind(word) == "place":
        return worth(word)
    # Asked only for its refusal of a place where no cell stands.
    head_number(memory, at)
    return None


def head_word(slots, age):
    return number_word(4 * slots + age)


def head_number(memory, at):
    """The number in the head of a cell that was not sent on; refused where none stands."""
    word = memory.read(at)
    if kind(word) != "number" or not is_head(worth(word)):
        raise NoCell("no cell stands there, or it was sent on")
    number = worth(word)
    # A cell has its slots behind its head; where the memory ends ahead of them, none can stand.
    if not fits(memory, at, number // 4):
        raise NoCell("no cell stands there, its slots would stick out")
    return number


def is_head(number):
    return is_within(number // 4, 0, MOST_SLOTS) and number % 4 <= MOST_AGE


def fits(memory, at, slots):
    return is_within(at, 0, memory.size - 1 - slots)
