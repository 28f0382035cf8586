"""Documents that are kept with a machine and changed (point 29)."""

from graftform.bounds import DOC_PLACES
from graftform.docs import at_place, laid_out, put_in, renamed, size_of, taken_out
from graftform.errors import TooLarge
from graftform.machines import forms_of, start_of, states_of


class Spot:
    """What stands at a place: the name, the state, and the spots of the children."""

    def __init__(self, name, state, below):
        self.name = name
        self.state = state
        self.below = below


def planted(machine, doc):
    """The spot of a document's top, with those below it."""
    laid = laid_out(doc)
    states = states_of(machine, laid)
    spots = {}
    for number in reversed(range(len(laid))):
        place, name, below = laid[number]
        spots[number] = Spot(name, states[number], [spots[child] for child in below])
    return spots[0]


def spots_down(top, place):
    """The spots from the top down to a place, both counted."""
    line = [top]
    for k in place:
        line.append(line[-1].below[k])
    return line


def state_anew(machine, spot):
    """The state of a spot by its name and the states of its children."""
    state = start_of(machine, spot.name)
    for child in spot.below:
        state = machine[3][state][child.state]
    return state


def look_upward(machine, line, place):
    """Reckon the states of a line of spots anew, from a place upward up to one whose state stays; tell their places."""
    seen = []
    for depth in reversed(range(len(line))):
        spot = line[depth]
        before = spot.state
        spot.state = state_anew(machine, spot)
        seen.append(place[:depth])
        if spot.state == before:
            break
    return seen


def places_from_below(doc):
    """The places of a document, each behind those below it, child by child."""
    places = []
    waiting = [((), doc)]
    while waiting:
        place, here = waiting.pop()
        places.append(place)
        waiting.extend([(place + (k,), child) for k, child in enumerate(here[1])])
    # They came each ahead of those below it, the last child first.
    return places[::-1]


def not_too_large(doc):
    """The document itself, or TooLarge."""
    size = size_of(doc)
    if size > DOC_PLACES:
        raise TooLarge(size)
    return doc


class Kept:
    """A document that is kept with a machine."""

    def __init__(self, machine, doc):
        self.machine = machine
        self.doc = doc
        self.top = planted(machine, doc)
        self.seen = []

    def now(self):
        """The document as it is."""
        return self.doc

    def put(self, place, new):
        """Put a new document in at a place; or NoPlace, or then TooLarge."""
        self.doc = not_too_large(put_in(self.doc, place, new))
        line = spots_down(self.top, place[:-1])
        line[-1].below.insert(place[-1], planted(self.machine, new))
        inside = [place + below for below in places_from_below(new)]
        self.seen = inside + look_upward(self.machine, line, place[:-1])

    def cut(self, place):
        """Take out what stands at a place; or NoPlace, or then TooLarge."""
        self.doc = not_too_large(taken_out(self.doc, place))
        line = spots_down(self.top, place[:-1])
        line[-1].below.pop(place[-1])
        self.seen = look_upward(self.machine, line, place[:-1])

    def rename(self, place, name):
        """Give a place another name; or NoPlace, or then NoName, or then TooLarge."""
        self.doc = not_too_large(renamed(self.doc, place, name))
        line = spots_down(self.top, place)
        spot = line[-1]
        spot.name = name
        self.seen = look_upward(self.machine, line, place)

    def forms_at(self, place):
        """The list of the forms of what stands at a place, in the machine's order; or NoPlace."""
        at_place(self.doc, place)
        return forms_of(self.machine, spots_down(self.top, place)[-1].state)

    def all_forms(self):
        """A list of tuples (place, forms of what stands there), in the places' order."""
        found = []
        waiting = [((), self.top)]
        while waiting:
            place, spot = waiting.pop()
            found.append((place, forms_of(self.machine, spot.state)))
            below = [(place + (k,), child) for k, child in enumerate(spot.below)]
            waiting.extend(below[::-1])
        return found

    def looked(self):
        """The list of the places that the last change looked at, in the order in which it did."""
        return list(self.seen)
