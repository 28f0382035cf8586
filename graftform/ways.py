"""Ways of rows of documents through a machine (point 33)."""

from graftform.machines import start_of, state_of
from graftform.turners import HOLE

# What a way ends in for rows without documents, and for rows of several.
NO_DOCUMENT = -1
SEVERAL = -2


def way_of_none(machine):
    """The way of the row without documents."""
    return tuple(range(len(machine[4]))) + (NO_DOCUMENT,)


def way_of_one(machine, state):
    """The way of the row of just one document, which has this state."""
    return tuple([behind[state] for behind in machine[3]]) + (state,)


def end_behind(end, other):
    """What the way of one row and then another ends in, by what theirs end in."""
    if end == NO_DOCUMENT:
        return other
    return end if other == NO_DOCUMENT else SEVERAL


def way_behind(way, other):
    """The way of the one row and then the other."""
    return tuple([other[state] for state in way[:-1]]) + (end_behind(way[-1], other[-1]),)


def way_of(machine, row):
    """The way of a row, a tuple of documents."""
    way = way_of_none(machine)
    for doc in row:
        way = way_behind(way, way_of_one(machine, state_of(machine, doc)))
    return way


def state_filled(machine, item, way):
    """The state of the document that comes of an item that isn't a hole, by the way of what stands in each hole."""
    name, items = item
    return way_filled(machine, items, way)[start_of(machine, name)]


def way_filled(machine, items, way):
    """The way of the row that comes of a rule's items, by the way of what stands in each hole."""
    whole = way_of_none(machine)
    for item in items:
        own = way if item == HOLE else way_of_one(machine, state_filled(machine, item, way))
        whole = way_behind(whole, own)
    return whole
