"""The plain words of the points on alike states, kept documents and turners: slow, and apart from the program."""

from itertools import product

import plain


def reached(machine):
    """The states to which documents come."""
    return sorted(plain.machine_sizes(machine))


def led(machine, state, way):
    """Point 27: where a way leads from a state."""
    for side, partner in way:
        state = machine[3][state][partner] if side == 0 else machine[3][partner][state]
    return state


def pairs_apart(machine):
    """Point 27: all pairs of states that some way tells apart, by ways of more and more steps."""
    states = range(len(machine[4]))
    steps = list(product((0, 1), reached(machine)))
    found = {pair for pair in product(states, repeat=2) if machine[4][pair[0]] != machine[4][pair[1]]}
    while True:
        more = {
            (one, other) for one, other in product(states, repeat=2) if (one, other) not in found
            and any((led(machine, one, [step]), led(machine, other, [step])) in found for step in steps)}
        if not more:
            return found
        found |= more


def fewest(machine):
    """Point 28."""
    forms, names, starts, steps, marks = machine
    told = pairs_apart(machine)
    come = reached(machine)
    classes = {state: frozenset(other for other in come if (state, other) not in told) for state in come}
    kept = [name for name, start in zip(names, starts) if classes[start] != classes[starts[-1]]]
    firsts = [classes[starts[names.index(name)]] for name in kept] + [classes[starts[-1]]]

    def step(one, other):
        behind = {classes[steps[p][q]] for p in one for q in other}
        assert len(behind) == 1
        return behind.pop()

    return plain.table(forms, kept, firsts, step, lambda state, form: plain.in_form(machine, min(state), form))


def widened(chance, machine):
    """A machine that tells the same of each document: states doubled at will, some without documents, all shuffled."""
    forms, names, starts, steps, marks = machine
    copies = [state for state in range(len(marks)) for _ in range(chance.randint(1, 3))]
    chance.shuffle(copies)
    copies += [chance.choice(copies) for _ in range(chance.randint(0, 2))]
    spots = {state: [k for k, copy in enumerate(copies) if copy == state] for state in copies}
    more = sorted({*names, *chance.sample("abxyz", 2)})
    firsts = [starts[names.index(name)] if name in names else starts[-1] for name in more] + [starts[-1]]
    return (
        forms, tuple(more), tuple(chance.choice(spots[first]) for first in firsts),
        tuple(tuple(chance.choice(spots[steps[p][q]]) for q in copies) for p in copies),
        tuple(marks[copy] for copy in copies))


def from_below(doc, place=()):
    """Point 29: the places of a document, each behind those below it."""
    found = []
    for k, child in enumerate(doc[1]):
        found += from_below(child, place + (k,))
    return found + [place]


def doc_at(doc, place):
    for k in place:
        doc = doc[1][k]
    return doc


def looked(machine, before, after, place):
    """Point 29: the places looked at from a place upward."""
    found = []
    for depth in range(len(place), -1, -1):
        here = place[:depth]
        found.append(here)
        if plain.state(machine, doc_at(before, here)) == plain.state(machine, doc_at(after, here)):
            break
    return found


def all_forms(machine, doc):
    return [(place, [form for form in machine[0] if plain.has_form(machine, here, form)])
            for place, here in plain.all_places(doc)]


def in_holes(items, row):
    """Point 30: items with a row in the stead of each hole."""
    found = []
    for item in items:
        found += list(row) if item == "*" else [(item[0], in_holes(item[1], row))]
    return tuple(found)


def turned(turner, doc):
    """Point 30."""
    row = [other for child in doc[1] for other in turned(turner, child)]
    for name, items in turner:
        if name == doc[0]:
            return in_holes(items, row)
    return ((doc[0], tuple(row)),)


def row_size(row):
    return sum(1 + row_size(doc[1]) for doc in row)


def hole_docs(items):
    """Items as documents, holes as such of a name that no rule has."""
    return tuple(("*", ()) if item == "*" else (item[0], hole_docs(item[1])) for item in items)


def doc_items(docs):
    return tuple("*" if doc == ("*", ()) else (doc[0], doc_items(doc[1])) for doc in docs)


def chained(first, second):
    """Point 32, without its limits."""
    ahead = dict(first)
    rules = []
    for name in [*ahead, *(name for name, _ in second if name not in ahead)]:
        docs = hole_docs(ahead.get(name, ((name, ("*",)),)))
        rules.append((name, doc_items(made for doc in docs for made in turned(second, doc))))
    return tuple(rules)


def count_items(items):
    return sum(1 if item == "*" else 1 + count_items(item[1]) for item in items)


def count_within(items):
    return max((1 if item == "*" else 1 + count_within(item[1]) for item in items), default=0)


def item_places(items, above=()):
    """Point 36: pairs (place, item) of what isn't a hole, each ahead of those within it."""
    found = []
    for k, item in enumerate(items):
        if item != "*":
            found += [(above + (k,), item)] + item_places(item[1], above + (k,))
    return found


def show_items(items):
    """Point 31."""
    return " ".join(
        item if item == "*" else item[0] + (f"({show_items(item[1])})" if item[1] else "") for item in items)


def show_turner(turner):
    return "; ".join(f"{name} -> {show_items(items)}".rstrip() for name, items in turner)


def sample_items(chance, most, depth, names="abx", holes=0.4):
    """Items with so many at most at one depth."""
    found = []
    for _ in range(chance.randint(0, most)):
        if chance.random() < holes:
            found.append("*")
        else:
            inner = sample_items(chance, most, depth - 1, names, holes) if depth > 1 else ()
            found.append((chance.choice(names), inner))
    return tuple(found)


def sample_turner(chance, names="abx", most=2, depth=2):
    """A turner with rules for some of the names."""
    ruled = chance.sample(names, chance.randint(0, len(names)))
    return tuple((name, sample_items(chance, most, depth, names)) for name in ruled)


def sample_doc(chance, size, names="abx"):
    """A document of so many places."""
    parts = []
    left = size - 1
    while left:
        parts.append(chance.randint(1, left))
        left -= parts[-1]
    return (chance.choice(names), tuple(sample_doc(chance, part, names) for part in parts))


def way_of(machine, row):
    """Point 33, by the states of the row's documents."""
    states = [plain.state(machine, doc) for doc in row]
    way = []
    for here in range(len(machine[4])):
        for child in states:
            here = machine[3][here][child]
        way.append(here)
    return tuple(way) + ((-1,) if not states else (states[0],) if len(states) == 1 else (-2,))


def way_joined(way, other):
    end = other[-1] if way[-1] == -1 else way[-1] if other[-1] == -1 else -2
    return tuple(other[state] for state in way[:-1]) + (end,)


def way_of_state(machine, state):
    return tuple(row[state] for row in machine[3]) + (state,)


def way_filled(machine, items, way):
    whole = tuple(range(len(machine[4]))) + (-1,)
    for item in items:
        own = way
        if item != "*":
            own = way_of_state(machine, way_filled(machine, item[1], way)[plain.state(machine, (item[0], ()))])
        whole = way_joined(whole, own)
    return whole


def back(turner, machine, most=64):
    """Point 34: the pairs and the machine; None where there are more states than that."""
    names = sorted({*machine[1], *(name for name, _ in turner)})
    rules = dict(turner)

    def row_way(pair):
        name = (names + ["nosuch"])[pair[0]]
        return way_filled(machine, rules.get(name, ((name, ("*",)),)), pair[1])

    def step(pair, child):
        return pair[0], way_joined(pair[1], row_way(child))

    def has(pair, form):
        return row_way(pair)[-1] >= 0 and plain.in_form(machine, row_way(pair)[-1], form)

    none = tuple(range(len(machine[4]))) + (-1,)
    firsts = [(number, none) for number in range(len(names) + 1)]
    states = plain.numbered(firsts, step, most)
    return None if states is None else (tuple(states), plain.table(machine[0], names, firsts, step, has, most))


def couples(one, form, other, most=64):
    """The pairs of states of two machines as they come, and the machine that tells of them whether they have f."""
    names, firsts = plain.pair_starts(one, other)
    step = plain.pair_step(one, other)
    pairs = plain.numbered(firsts, step, most)
    if pairs is None:
        return None
    return pairs, plain.table(("is",), names, firsts, step, lambda pair, _: plain.in_form(one, pair[0], form), most)


def comes(turner, one, form, other):
    """Point 36; None where there are too many states."""
    drawn = back(turner, other)
    told = drawn and couples(one, form, drawn[1])
    if told is None:
        return None
    standing = {pair[1] for pair, truth in zip(told[0], plain.stands(told[1], "is")) if truth}
    found = []
    for name, items in turner:
        number = drawn[1][1].index(name)
        for place, item in item_places(items):
            sets = set()
            for state in standing:
                if drawn[0][state][0] == number:
                    made = way_filled(other, (item,), drawn[0][state][1])[-1]
                    sets.add(tuple(form for form in other[0] if plain.in_form(other, made, form)))
            found.append((name, place, sorted(sets)))
    return found


def is_turned(turner, doc, machine, goal):
    """Point 35: whether a document is turned into just one, which has the form."""
    row = turned(turner, doc)
    return len(row) == 1 and plain.has_form(machine, row[0], goal)
