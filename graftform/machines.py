"""Machines: the one of a book, and what a machine tells of documents and states (points 17 and 19)."""

from graftform.coming import numbered
from graftform.docs import laid_out
from graftform.errors import NoForm
from graftform.rows import LeftSets


def first_state(book, sets, name):
    """The state of a document of this name without children: a set's number for each rule."""
    state = []
    for rule, left in zip(book, sets):
        state.append(left.number([rule[2]] if rule[1] == name else []))
    return tuple(state)


def state_forms(book, sets, state):
    """The forms that documents of a state have."""
    return [rule[0] for rule, left, number in zip(book, sets, state) if left.ends[number]]


def state_behind(book, sets, state, child):
    """The state behind one more child."""
    forms = state_forms(book, sets, child)
    return tuple([left.behind(number, left.letter(forms)) for left, number in zip(sets, state)])


def mark_of(truths):
    """The sum of 2 ** k for those k of which the truth holds."""
    mark = 0
    for k, truth in enumerate(truths):
        if truth:
            mark += 1 << k
    return mark


def machine_of(book):
    """The machine of a book, or TooMany."""
    sets = [LeftSets(rule[2]) for rule in book]
    names = sorted({rule[1] for rule in book})
    # No rule has the name None: it stands for every name that isn't among them.
    firsts = [first_state(book, sets, name) for name in names + [None]]
    states, starts, steps = numbered(firsts, lambda state, child: state_behind(book, sets, state, child))
    marks = [mark_of([left.ends[number] for left, number in zip(sets, state)]) for state in states]
    return (tuple([rule[0] for rule in book]), tuple(names), starts, steps, tuple(marks))


def start_of(machine, name):
    """The state of a document of this name without children."""
    forms, names, starts, steps, marks = machine
    return starts[names.index(name)] if name in names else starts[-1]


def states_of(machine, laid):
    """The states of what stands at each place of a document that is laid out, by the places' numbers."""
    steps = machine[3]
    states = {}
    for number in reversed(range(len(laid))):
        place, name, below = laid[number]
        state = start_of(machine, name)
        for child in below:
            state = steps[state][states[child]]
        states[number] = state
    return states


def state_of(machine, doc):
    """The state of a document."""
    return states_of(machine, laid_out(doc))[0]


def forms_of(machine, state):
    """The list of the forms that documents of a state have, in the machine's order."""
    return [form for k, form in enumerate(machine[0]) if machine[4][state] >> k & 1]


def marked(machine, doc):
    """A list of tuples (place, forms of what stands there), in the places' order."""
    laid = laid_out(doc)
    states = states_of(machine, laid)
    return [(place, forms_of(machine, states[number])) for number, (place, name, below) in enumerate(laid)]


def having(machine, form):
    """For each state whether its documents have the form, or NoForm."""
    forms, names, starts, steps, marks = machine
    if form not in forms:
        raise NoForm(form)
    k = forms.index(form)
    return [mark >> k & 1 == 1 for mark in marks]
