"""Frames: cells in which names live, and the deeds by which a program's statements are done."""

from cellkeep.cells import MOST_SLOTS

NAMES_IN_FRAME = 7
# The last slot of each frame, which holds the next one.
NEXT_SLOT = 7


def begun(names):
    if len(names) == 0:
        return []
    # From the last frame to the first, so that each has its next one at hand.
    deeds = [("make", 0, MOST_SLOTS)]
    for more in range((len(names) - 1) // NAMES_IN_FRAME):
        deeds.extend([("share", 1, 0), ("make", 0, MOST_SLOTS), ("put", 0, NEXT_SLOT, 1), ("drop", 1)])
    return deeds


def loaded(names, name, hand):
    frame = frame_of(names, name)
    return walked(frame, hand) + [("take", hand, holder(frame, hand), slot_of(names, name))]


def stored(names, name):
    frame = frame_of(names, name)
    return walked(frame, 2) + [("put", holder(frame, 2), slot_of(names, name), 1)]


def walked(frame, hand):
    """Deeds by which a hand holds a frame; none for the first one, which hand 0 holds."""
    return [("take", hand, holder(step, hand), NEXT_SLOT) for step in range(frame)]


def holder(frame, hand):
    """The hand that holds a frame, where this one walks there."""
    return 0 if frame == 0 else hand


def frame_of(names, name):
    return names.index(name) // NAMES_IN_FRAME


def slot_of(names, name):
    return names.index(name) % NAMES_IN_FRAME


def deeds_of(names, statement):
    # Dropped first, so that a make collects whatever no name reaches.
    return [("drop", 1), ("drop", 2)] + deeds_behind(names, statement)


def deeds_behind(names, statement):
    word = statement[0]
    name = statement[1]
    if word == "make":
        return [("make", 1, statement[2])] + stored(names, name)
    if word == "keep":
        return [("keep", 1, statement[2])] + stored(names, name)
    if word == "copy":
        return loaded(names, statement[2], 1) + stored(names, name)
    if word == "get":
        return loaded(names, statement[2], 1) + [("take", 1, 1, statement[3])] + stored(names, name)
    if word == "set":
        return loaded(names, name, 2) + loaded(names, statement[3], 1) + [("put", 2, statement[2], 1)]
    if word == "tell":
        return loaded(names, name, 1) + [("read", 1)]
    # A drop: hand 1 holds nothing by now, and that is stored.
    return stored(names, name)
