"""States of machines, numbered as they come (point 18)."""

from graftform.bounds import MACHINE_STATES
from graftform.errors import TooMany


class Coming:
    """States with their numbers, in the order in which they came."""

    def __init__(self):
        self.states = []
        self.numbers = {}

    def came(self, state):
        """The number of a state, the next one where it didn't come ahead; or TooMany."""
        if state not in self.numbers:
            if len(self.states) == MACHINE_STATES:
                raise TooMany("a machine that is made has 64 states at most")
            self.numbers[state] = len(self.states)
            self.states.append(state)
        return self.numbers[state]


def numbered(firsts, step):
    """The states in order, and starts and steps by their numbers; or TooMany.

    What the states are is told by the list of the starts and by a function of two states, which tells the
    state of the first one with a child of the second behind its children.
    """
    coming = Coming()
    starts = tuple([coming.came(first) for first in firsts])
    table = {}
    p = 0
    while p < len(coming.states):
        for q in range(p + 1):
            table[(p, q)] = coming.came(step(coming.states[p], coming.states[q]))
            table[(q, p)] = coming.came(step(coming.states[q], coming.states[p]))
        p += 1
    many = len(coming.states)
    steps = [tuple([table[(state, child)] for child in range(many)]) for state in range(many)]
    return coming.states, starts, tuple(steps)
