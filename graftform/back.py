"""Machines drawn back through turners, and what turners make of documents of a form (points 34, 35 and 36)."""

from graftform.coming import numbered
from graftform.machines import forms_of, having
from graftform.papers import each_is
from graftform.prices import stands
from graftform.together import pairs_of
from graftform.turners import HOLE, items_for
from graftform.ways import state_filled, way_behind, way_filled, way_of_none

# The one form of the machine that seeks what stands in documents of the form that is asked for.
SOUGHT = "sought"


class DrawnBack:
    """A machine drawn back through a turner; TooMany where it has too many states.

    Its pairs are in the states' order what the states are: the number of a document's name among the names,
    and the way of the turned rows of its children.
    """

    def __init__(self, turner, machine):
        self.machine = machine
        self.rules = dict(turner)
        self.names = sorted(set(machine[1] + tuple(self.rules)))
        self.row_ways = {}
        firsts = [(number, way_of_none(machine)) for number in range(len(self.names) + 1)]
        self.pairs, self.starts, self.steps = numbered(firsts, lambda pair, child: self.pair_behind(pair, child))

    def name_at(self, number):
        """The name with a number; None, which is no name, stands for every name that isn't among them."""
        return self.names[number] if number < len(self.names) else None

    def row_way(self, pair):
        """The way of the row into which documents of a state are turned, reckoned once for each state."""
        if pair not in self.row_ways:
            number, inner = pair
            self.row_ways[pair] = way_filled(self.machine, items_for(self.rules, self.name_at(number)), inner)
        return self.row_ways[pair]

    def pair_behind(self, pair, child):
        """The state behind one more child."""
        number, inner = pair
        return (number, way_behind(inner, self.row_way(child)))

    def mark_of_pair(self, pair):
        """The mark of a state: that of the turned document, where the turned row is just one."""
        end = self.row_way(pair)[-1]
        return self.machine[4][end] if end >= 0 else 0

    def table(self):
        """The machine itself."""
        marks = tuple([self.mark_of_pair(pair) for pair in self.pairs])
        return (self.machine[0], tuple(self.names), self.starts, self.steps, marks)


def drawn_back(turner, machine):
    """The machine that tells of a document the forms of its turned one, or TooMany."""
    return DrawnBack(turner, machine).table()


def back_states(turner, machine):
    """What the states of the machine drawn back are: pairs of a name's number and a way; or TooMany."""
    return tuple(DrawnBack(turner, machine).pairs)


def turns(turner, one, form, other, goal):
    """Whether each document of a form is turned into just one, of another form, as each_is tells it; refused so."""
    # Forms that aren't there are refused ahead of too many states of the machine drawn back.
    having(one, form)
    having(other, goal)
    return each_is(one, form, drawn_back(turner, other), goal)


def pairs_standing(one, truths, drawn):
    """The pairs, by a machine drawn back, of what stands in documents of those states of another one of which the
    truth holds; or TooMany."""
    names, couples, starts, steps = pairs_of(one, drawn.table())
    marks = [1 if truths[state] else 0 for state, back in couples]
    standing = stands(((SOUGHT,), names, starts, steps, tuple(marks)), SOUGHT)
    numbers = sorted({back for (state, back), truth in zip(couples, standing) if truth})
    return [drawn.pairs[back] for back in numbers]


def placed_items(items, above):
    """Pairs (place, item) of the items that aren't holes, each ahead of those within it."""
    found = []
    for k, item in enumerate(items):
        if item != HOLE:
            place = above + (k,)
            found.append((place, item))
            found.extend(placed_items(item[1], place))
    return found


def form_sets(machine, item, ways):
    """The sorted sets of forms of what comes of an item, by the ways of what may stand in each hole."""
    return sorted({tuple(forms_of(machine, state_filled(machine, item, way))) for way in ways})


def comes(turner, one, form, other):
    """A list of tuples (rule's name, item's place, sets of forms of what comes of it); or NoForm, or then TooMany."""
    truths = having(one, form)
    drawn = DrawnBack(turner, other)
    standing = pairs_standing(one, truths, drawn)
    found = []
    for name, items in turner:
        ways = [way for number, way in standing if drawn.name_at(number) == name]
        for place, item in placed_items(items, ()):
            found.append((name, place, form_sets(other, item, ways)))
    return found
