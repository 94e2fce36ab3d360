"""A picture: what hands reach, told without places."""

from cellkeep.cells import slot_places
from cellkeep.marking import reached
from cellkeep.words import kind, worth


def picture(areas, roots):
    cells = reached(areas.memory, roots.starts())
    numbers = {}
    for number, at in enumerate(cells):
        numbers[at] = number
    held = [shown(numbers, word) for word in roots.hands.row()]
    return (held, [shown_slots(areas.memory, numbers, at) for at in cells])


def shown_slots(memory, numbers, at):
    return [shown(numbers, memory.read(place)) for place in slot_places(memory, at)]


def shown(numbers, word):
    if kind(word) == "place":
        return ("cell", numbers[worth(word)])
    return worth(word)
