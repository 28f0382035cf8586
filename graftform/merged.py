"""Alike states, ways that tell states apart, and the machine with the fewest states (points 27 and 28)."""

from graftform.coming import numbered
from graftform.machines import start_of
from graftform.prices import priced


def reached(machine):
    """The sorted list of the states to which documents come."""
    return sorted(priced(machine))


def led(machine, state, step):
    """The state to which a step (side, partner) of a way leads."""
    side, partner = step
    return machine[3][state][partner] if side == 0 else machine[3][partner][state]


def all_steps(machine):
    """The steps of which ways are made."""
    return [(side, partner) for partner in reached(machine) for side in (0, 1)]


def first_equals(things):
    """For each thing the number of the first one that is equal."""
    firsts = {}
    found = []
    for number, thing in enumerate(things):
        found.append(firsts.setdefault(thing, number))
    return tuple(found)


def alike(machine):
    """For each state the least one that is alike."""
    steps = all_steps(machine)
    classes = first_equals(machine[4])
    # States that no way of so many steps tells apart are of one class; each round looks one step further.
    while True:
        signs = []
        for state, least_one in enumerate(classes):
            behind = [classes[led(machine, state, step)] for step in steps]
            signs.append((least_one,) + tuple(behind))
        finer = first_equals(signs)
        if finer == classes:
            return classes
        classes = finer


def root_of(roots, state):
    """The state that stands for all that are held to be alike to a state."""
    while roots[state] != state:
        state = roots[state]
    return state


def apart(machine, one, other):
    """A way that tells two states apart, None where they are alike."""
    marks = machine[4]
    steps = all_steps(machine)
    # If the two are alike, so are the states to which a step leads from them: such are held to be alike
    # until unlike marks show up. What is held to be so already isn't followed again.
    roots = list(range(len(marks)))
    waiting = [(one, other, ())]
    while waiting:
        first, second, way = waiting.pop()
        if marks[first] != marks[second]:
            return way
        for step in steps:
            behind = led(machine, first, step)
            beside = led(machine, second, step)
            root = root_of(roots, behind)
            joined = root_of(roots, beside)
            if root != joined:
                roots[joined] = root
                waiting.append((behind, beside, way + (step,)))
    return None


def fewest(machine):
    """The machine with the fewest states that tells the same of each document."""
    forms, names, starts, steps, marks = machine
    classes = alike(machine)
    # Only states with documents stand for their class: others may step elsewhere with one another.
    chosen = {}
    for state in reached(machine):
        chosen.setdefault(classes[state], state)
    told_apart = [name for name in names if classes[start_of(machine, name)] != classes[starts[-1]]]
    # None is no name, so it stands for every name that isn't among them.
    firsts = [chosen[classes[start_of(machine, name)]] for name in told_apart + [None]]
    states, new_starts, new_steps = numbered(firsts, lambda state, child: chosen[classes[steps[state][child]]])
    return (forms, tuple(told_apart), new_starts, new_steps, tuple([marks[state] for state in states]))
