"""Whole collections: all cells that are met slide together in old."""

from cellkeep.cells import MOST_AGE, aged, slot_places, words_of
from cellkeep.marking import reached
from cellkeep.words import kind, place_word, worth


def goals(areas, kept):
    # Old lies ahead of both halves, so cells by their places are old ones first, then young ones.
    where = {}
    goal = areas.old.begin
    for at in sorted(kept):
        where[at] = goal
        goal = goal + words_of(areas.memory, at)
    return where


def collect_all(areas, roots):
    memory = areas.memory
    kept = sorted(reached(memory, roots.starts()))
    where = goals(areas, kept)
    for hand, word in enumerate(roots.hands.row()):
        roots.hands.put(hand, word_behind(where, word))
    roots.follow(lambda at: where.get(at))
    roots.book.clear()
    areas.old.empty()
    areas.young.empty()
    areas.spare.empty()
    # By rising places: so no cell is written over ahead of its own slide.
    for at in kept:
        renew(memory, where, at)
        slide(areas, at, where[at])
    return areas.old.used()


def renew(memory, where, at):
    aged(memory, at, MOST_AGE)
    for place in slot_places(memory, at):
        memory.write(place, word_behind(where, memory.read(place)))


def slide(areas, at, goal):
    words = words_of(areas.memory, at)
    areas.old.take(words)
    areas.memory.copy(at, goal, words)


def word_behind(where, word):
    if kind(word) != "place":
        return word
    return place_word(where[worth(word)])
