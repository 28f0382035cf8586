"""The texts of places, as a desk is told them (point 37)."""

from graftform.bounds import PLACE_FIGURES
from graftform.errors import NoRow
from graftform.wholes import FIGURES

TOP = "."


def is_place_number(text):
    """Whether it is a number of a place as it is written: without noughts ahead."""
    if not 1 <= len(text) <= PLACE_FIGURES or not all(sign in FIGURES for sign in text):
        return False
    return text == "0" or not text.startswith("0")


def read_place(text):
    """The place that a text tells, or NoRow."""
    if text == TOP:
        return ()
    numbers = text.split(".")
    if not all(is_place_number(number) for number in numbers):
        raise NoRow("a place is numbers parted by points, or one point")
    return tuple([int(number) for number in numbers])


def show_place(place):
    """The text of a place."""
    return ".".join([str(k) for k in place]) if place else TOP
