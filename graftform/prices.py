"""Least documents of states and forms, and how documents are made (points 22 to 25)."""

from graftform.bounds import DOC_PLACES
from graftform.errors import TooLarge
from graftform.machines import having

LETTERS = "abcdefghijklmnopqrstuvwxyz"


def priced(machine):
    """For each state with documents its size and an entry that makes a least one; sizes rise in this order.

    An entry is here `(name,)`, with None for a name that isn't the machine's, or a pair of states.
    """
    forms, names, starts, steps, marks = machine
    done = {}
    waiting = {}
    for name, start in zip(names + (None,), starts):
        waiting.setdefault(start, (1, (name,)))
    while waiting:
        # What is made of a state is greater than the state is, so the least that waits stays as it is.
        state = min(waiting, key=lambda each: waiting[each][0])
        done[state] = waiting.pop(state)
        for other in done:
            size = done[state][0] + done[other][0]
            for entry in ((state, other), (other, state)):
                made = steps[entry[0]][entry[1]]
                if made not in done and (made not in waiting or size < waiting[made][0]):
                    waiting[made] = (size, entry)
    return done


def sizes(machine):
    """For each state the least number of places of its documents, None where it has none."""
    known = priced(machine)
    return tuple([known[state][0] if state in known else None for state in range(len(machine[4]))])


def made_size(makings):
    """The number of places of what makings make."""
    counts = []
    for entry in makings:
        counts.append(1 if len(entry) == 1 else counts[entry[0]] + counts[entry[1]])
    return counts[-1]


def grown(makings):
    """The document that makings make, or TooLarge."""
    size = made_size(makings)
    if size > DOC_PLACES:
        raise TooLarge(size)
    docs = []
    for entry in makings:
        if len(entry) == 1:
            docs.append((entry[0], ()))
        else:
            name, children = docs[entry[0]]
            docs.append((name, children + (docs[entry[1]],)))
    return docs[-1]


def other_name(names):
    """A name that isn't among the names."""
    candidates = list(LETTERS) + [first + second for first in LETTERS for second in LETTERS]
    return [name for name in candidates if name not in names][0]


def needed_for(known, state):
    """The states of which a least document of a state is made, it included, each behind those it is made of."""
    needed = {state: True}
    for each in reversed(list(known)):
        entry = known[each][1]
        if each in needed and len(entry) == 2:
            needed[entry[0]] = True
            needed[entry[1]] = True
    return [each for each in known if each in needed]


def makings_by(machine, known, state):
    """Makings of a least document of a state, by what is known of the states with documents."""
    needed = needed_for(known, state)
    numbers = {each: k for k, each in enumerate(needed)}
    makings = []
    for each in needed:
        entry = known[each][1]
        if len(entry) == 2:
            makings.append((numbers[entry[0]], numbers[entry[1]]))
        else:
            makings.append((other_name(machine[1]),) if entry[0] is None else entry)
    return tuple(makings)


def makings_of(machine, state):
    """Makings of a least document of a state; None where it has none."""
    known = priced(machine)
    return makings_by(machine, known, state) if state in known else None


def least(machine, form):
    """Makings of a least document that has a form; None where there is none; or NoForm."""
    truths = having(machine, form)
    known = priced(machine)
    for state in known:
        if truths[state]:
            return makings_by(machine, known, state)
    return None


def stands(machine, form):
    """For each state whether a document of it stands at some place of some document that has the form; or NoForm."""
    truths = having(machine, form)
    steps = machine[3]
    known = priced(machine)
    standing = {state: True for state in known if truths[state]}
    # States of which, by more children behind or none, such come as stand there.
    begun = {state: True for state in standing}
    found = True
    while found:
        found = False
        for state in known:
            for child in known:
                if steps[state][child] in begun and not (state in begun and child in standing):
                    begun.update({state: True, child: True})
                    standing[child] = True
                    found = True
    return tuple([state in standing for state in range(len(truths))])
