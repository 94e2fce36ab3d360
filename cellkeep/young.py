"""Young collections: young cells that are met are copied, the others are gone."""

from cellkeep.cells import age_of, sent_to, slot_places
from cellkeep.copying import copied, moved
from cellkeep.words import kind, worth


def collect_young(areas, roots):
    copies = copy_met(areas, roots)
    # Asked ahead of the flip, while young is still the half that the cells left.
    roots.follow(lambda at: goal_of(areas, at))
    areas.flip()
    areas.spare.empty()
    grown = [at for at in copies if areas.old.has(at)]
    renew_book(areas, roots.book, grown)
    return (len(copies) - len(grown), len(grown))


def copy_met(areas, roots):
    """Copies all young cells that are met; tells the places of the copies, as they were met."""
    copies = []
    for hand, word in enumerate(roots.hands.row()):
        roots.hands.put(hand, meet(areas, word, copies))
    for place in roots.book.places():
        meet_slot(areas, place, copies)
    done = 0
    while done < len(copies):
        for place in slot_places(areas.memory, copies[done]):
            meet_slot(areas, place, copies)
        done = done + 1
    return copies


def meet_slot(areas, place, copies):
    areas.memory.write(place, meet(areas, areas.memory.read(place), copies))


def meet(areas, word, copies):
    """The word behind the collection; a young cell that it tells and that is new here is copied."""
    if not is_of_young(areas, word):
        return word
    at = worth(word)
    if sent_to(areas.memory, at) is None:
        copies.append(copy_young(areas, at))
    return moved(areas.memory, word)


def copy_young(areas, at):
    if age_of(areas.memory, at) == 0:
        return copied(areas.memory, at, areas.spare, 1)
    return copied(areas.memory, at, areas.old, 2)


def is_of_young(areas, word):
    return kind(word) == "place" and areas.young.has(worth(word))


def goal_of(areas, at):
    """Where a cell is behind the copying; None of a young one that was not met."""
    if areas.young.has(at):
        return sent_to(areas.memory, at)
    return at


def renew_book(areas, book, grown):
    # No other slot of an old cell can hold a young one: none did, and none was written.
    looked = book.places()
    for at in grown:
        looked.extend(slot_places(areas.memory, at))
    book.clear()
    for place in looked:
        if is_of_young(areas, areas.memory.read(place)):
            book.write(place)
