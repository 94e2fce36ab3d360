"""Copying a cell into a space, and finding the place to which it went."""

from cellkeep.cells import MOST_AGE, aged, send, sent_to, words_of
from cellkeep.errors import BadCount
from cellkeep.whole import is_within
from cellkeep.words import kind, place_word, worth


def copied(memory, at, space, age):
    words = words_of(memory, at)
    # Looked at ahead of take, so that a refusal leaves the space's top where it was.
    if not is_within(age, 0, MOST_AGE):
        raise BadCount("no age of a cell")
    goal = space.take(words)
    memory.copy(at, goal, words)
    aged(memory, goal, age)
    send(memory, at, goal)
    return goal


def moved(memory, word):
    if kind(word) != "place":
        return word
    goal = sent_to(memory, worth(word))
    if goal is None:
        return word
    return place_word(goal)
