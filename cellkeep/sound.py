"""Soundness: whether areas and roots are as they are told to be."""

from cellkeep.cells import MOST_AGE, age_of, children, slot_places, words_of
from cellkeep.errors import NoCell
from cellkeep.words import kind, worth


def faults(areas, roots):
    # Where cells can't be walked through, nothing else can be told of them.
    if not walks(areas.memory, areas.old) or not walks(areas.memory, areas.young):
        return ["walk"]
    found = []
    if has_stray(areas, roots):
        found.append("stray")
    if roots.book.places() != wanted_places(areas):
        found.append("book")
    if areas.old.used() + areas.young.used() > areas.old.extent():
        found.append("room")
    if has_wrong_age(areas):
        found.append("age")
    return found


def walks(memory, space):
    try:
        cells = space.cells(memory)
    except NoCell:
        return False
    return sum([words_of(memory, at) for at in cells]) == space.used()


def has_stray(areas, roots):
    cells = areas.old.cells(areas.memory) + areas.young.cells(areas.memory)
    told = roots.starts()
    for at in cells:
        told.extend(children(areas.memory, at))
    told.extend([at for name, at in roots.weaks.names()])
    told.extend([at for ticket, at, number in roots.lasts.pending()])
    standing = all_of(cells)
    return any([at not in standing for at in told])


def wanted_places(areas):
    """The places of slots of old cells in which a young cell stands, rising."""
    young = all_of(areas.young.cells(areas.memory))
    slots = []
    for at in areas.old.cells(areas.memory):
        slots.extend(slot_places(areas.memory, at))
    return [place for place in slots if stands_in(areas.memory, place, young)]


def stands_in(memory, place, cells):
    word = memory.read(place)
    return kind(word) == "place" and worth(word) in cells


def has_wrong_age(areas):
    old = [age_of(areas.memory, at) for at in areas.old.cells(areas.memory)]
    young = [age_of(areas.memory, at) for at in areas.young.cells(areas.memory)]
    return any([age != MOST_AGE for age in old]) or MOST_AGE in young


def all_of(places):
    """A dict, which tells at once whether a place is among these."""
    among = {}
    for at in places:
        among[at] = True
    return among
