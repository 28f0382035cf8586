"""Patterns by the plain words of the points, over what is told of them: slow, and apart from the program."""

from functools import lru_cache
from itertools import product

EMPTY = ("chain", ())


def opened(kind, parts):
    found = []
    for part in parts:
        found.extend(part[1] if part[0] == kind else (part,))
    return tuple(found)


def chain(parts):
    parts = opened("chain", parts)
    return parts[0] if len(parts) == 1 else ("chain", parts)


def choice(parts):
    parts = tuple(dict.fromkeys(opened("choice", parts)))
    return parts[0] if len(parts) == 1 else ("choice", parts)


def times(part, low, high):
    """High is -1 for None, here and below."""
    if high == 0 or part == EMPTY:
        return EMPTY
    return part if (low, high) == (1, 1) else ("times", part, low, high)


def mixed(parts):
    parts = tuple(part for part in opened("mixed", parts) if part != EMPTY)
    if not parts:
        return EMPTY
    return parts[0] if len(parts) == 1 else ("mixed", parts)


@lru_cache(maxsize=None)
def fits(told, row):
    """Point 8: a row is a tuple of tuples of forms."""
    kind = told[0]
    if kind == "one":
        return len(row) == 1 and told[1] in row[0]
    if kind == "chain":
        return fits_chain(told[1], row)
    if kind == "choice":
        return any(fits(part, row) for part in told[1])
    if kind == "mixed":
        return fits_mixed(told[1], row)
    return fits_times(told, row)


def fits_chain(parts, row):
    if not parts:
        return not row
    return any(fits(parts[0], row[:k]) and fits_chain(parts[1:], row[k:]) for k in range(len(row) + 1))


def fits_times(told, row):
    _, part, low, high = told
    # More pieces than this are without children, and so could be left out or put in.
    most = low + len(row) if high == -1 else high
    return any(fits_chain((part,) * n, row) for n in range(low, most + 1))


def fits_mixed(parts, row):
    for dealt in product(range(len(parts)), repeat=len(row)):
        if all(fits(part, tuple(child for child, to in zip(row, dealt) if to == k)) for k, part in enumerate(parts)):
            return True
    return False


def bare(told):
    return fits(told, ())


@lru_cache(maxsize=None)
def left(told, forms):
    """Point 11: the frozenset of what is told of the patterns left."""
    kind = told[0]
    if kind == "one":
        return frozenset([EMPTY] if told[1] in forms else [])
    if kind == "choice":
        return frozenset(rest for part in told[1] for rest in left(part, forms))
    if kind == "times":
        _, part, low, high = told
        fewer = times(part, low - 1 if low else 0, -1 if high == -1 else high - 1)
        return frozenset(chain((rest, fewer)) for rest in left(part, forms))
    found = []
    for k, part in enumerate(told[1]):
        ahead, behind = told[1][:k], told[1][k + 1:]
        for rest in left(part, forms):
            if kind == "mixed":
                found.append(mixed(ahead + (rest,) + behind))
            elif all(bare(other) for other in ahead):
                found.append(chain((rest,) + behind))
    return frozenset(found)


def machine(told, letters, most=64):
    """Point 12; None where there are more states than that."""
    states = [frozenset([told])]
    steps = []
    for state in states:
        row = []
        for forms in letters:
            after = frozenset(rest for pattern in state for rest in left(pattern, tuple(forms)))
            if after not in states:
                states.append(after)
            row.append(states.index(after))
        steps.append(tuple(row))
        if len(states) > most:
            return None
    return tuple(steps), tuple(any(bare(pattern) for pattern in state) for state in states)


def sample(chance, names, depth, forms=("a", "b")):
    """A pattern as it is told, with so many names at most, within one another so deep at most."""
    kind = chance.choice(["one", "chain", "choice", "times", "times", "mixed"])
    if depth == 1 or kind == "one":
        return ("one", chance.choice(forms))
    if kind == "times":
        low = chance.choice([0, 0, 1, 2, 3])
        high = chance.choice([-1, low, low + 1, low + 2])
        return times(sample(chance, names, depth - 1, forms), low, high)
    many = chance.randint(1 if kind == "choice" else 0, min(3, names))
    parts = [sample(chance, names // many, depth - 1, forms) for _ in range(many)]
    return {"chain": chain, "choice": choice, "mixed": mixed}[kind](parts)
