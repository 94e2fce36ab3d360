"""Whole numbers and their bounds, asked of anything that is handed in."""


def is_whole(thing):
    # Python counts True and False as int; here they are no whole numbers.
    return isinstance(thing, int) and not isinstance(thing, bool)


def is_within(thing, least, most):
    return is_whole(thing) and least <= thing <= most
