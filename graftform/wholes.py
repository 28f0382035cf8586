"""Whole numbers."""

FIGURES = "0123456789"


def is_whole(thing):
    """Whether it is an int that is no truth: True and False are ints to Python alone."""
    return isinstance(thing, int) and not isinstance(thing, bool)


def is_between(thing, low, high):
    """Whether it is a whole number from low to high, both counted."""
    return is_whole(thing) and low <= thing <= high
