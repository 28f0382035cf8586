"""Two machines paired to one, and machines with one form more (points 20 and 21)."""

from graftform.coming import numbered
from graftform.errors import NoForm
from graftform.machines import having, start_of


def pairs_of(one, other):
    """The names of two machines, and their pairs of states as they come, with starts and steps; or TooMany."""
    names = sorted(set(one[1] + other[1]))
    # None is no name, so it stands for every name that isn't among them.
    firsts = [(start_of(one, name), start_of(other, name)) for name in names + [None]]

    def behind(pair, child):
        return (one[3][pair[0]][child[0]], other[3][pair[1]][child[1]])

    pairs, starts, steps = numbered(firsts, behind)
    return tuple(names), pairs, starts, steps


def paired(one, other):
    """The machine of a document's forms by two machines, or NoForm, or then TooMany."""
    for form in other[0]:
        if form in one[0]:
            raise NoForm(form)
    names, pairs, starts, steps = pairs_of(one, other)
    marks = [one[4][first] | other[4][second] << len(one[0]) for first, second in pairs]
    return (one[0] + other[0], names, starts, steps, tuple(marks))


def check_new(machine, new):
    """NoForm where the machine has the new form."""
    if new in machine[0]:
        raise NoForm(new)


def with_form(machine, new, truths):
    """The machine with a new form, which the documents of those states have of which the truth holds."""
    forms, names, starts, steps, marks = machine
    worth = 1 << len(forms)
    new_marks = [mark + worth if truth else mark for mark, truth in zip(marks, truths)]
    return (forms + (new,), names, starts, steps, tuple(new_marks))


def both(machine, new, form, other):
    """The machine with a new form of the documents that have two forms, or NoForm."""
    first = having(machine, form)
    second = having(machine, other)
    check_new(machine, new)
    return with_form(machine, new, [has and also for has, also in zip(first, second)])


def either(machine, new, form, other):
    """The machine with a new form of the documents that have one of two forms at least, or NoForm."""
    first = having(machine, form)
    second = having(machine, other)
    check_new(machine, new)
    return with_form(machine, new, [has or also for has, also in zip(first, second)])


def without(machine, new, form):
    """The machine with a new form of the documents that haven't a form, or NoForm."""
    truths = having(machine, form)
    check_new(machine, new)
    return with_form(machine, new, [not has for has in truths])


def holding(machine, new, form):
    """The machine with a new form of the documents with a place that has a form; or NoForm, or then TooMany."""
    truths = having(machine, form)
    check_new(machine, new)
    forms, names, starts, steps, marks = machine

    def behind(here, child):
        return (steps[here[0]][child[0]], here[1] or child[1] or truths[child[0]])

    states, new_starts, new_steps = numbered([(start, False) for start in starts], behind)
    new_marks = tuple([marks[state] for state, below in states])
    held = [below or truths[state] for state, below in states]
    return with_form((forms, names, new_starts, new_steps, new_marks), new, held)
