"""Marking: which cells are met from some places, and in which order."""

from cellkeep.cells import children


def reached(memory, starts):
    met = []
    seen = {}
    meet_new(starts, met, seen)
    done = 0
    while done < len(met):
        meet_new(children(memory, met[done]), met, seen)
        done = done + 1
    return met


def meet_new(places, met, seen):
    for at in places:
        if at not in seen:
            seen[at] = True
            met.append(at)
