"""The plain words of the points, patterns as what is told of them: slow, and apart from the program."""

import re
from functools import lru_cache
from itertools import product

EMPTY = ("chain", ())


def opened(kind, parts):
    found = []
    for part in parts:
        found.extend(part[1] if part[0] == kind else (part,))
    return tuple(found)


def chain(parts):
    parts = opened("chain", parts)
    return parts[0] if len(parts) == 1 else ("chain", parts)


def choice(parts):
    parts = tuple(dict.fromkeys(opened("choice", parts)))
    return parts[0] if len(parts) == 1 else ("choice", parts)


def times(part, low, high):
    """High is -1 for None, here and below."""
    if high == 0 or part == EMPTY:
        return EMPTY
    return part if (low, high) == (1, 1) else ("times", part, low, high)


def mixed(parts):
    parts = tuple(part for part in opened("mixed", parts) if part != EMPTY)
    if not parts:
        return EMPTY
    return parts[0] if len(parts) == 1 else ("mixed", parts)


@lru_cache(maxsize=None)
def fits(told, row):
    """Point 8: a row is a tuple of tuples of forms."""
    kind = told[0]
    if kind == "one":
        return len(row) == 1 and told[1] in row[0]
    if kind == "chain":
        return fits_chain(told[1], row)
    if kind == "choice":
        return any(fits(part, row) for part in told[1])
    if kind == "mixed":
        return fits_mixed(told[1], row)
    return fits_times(told, row)


def fits_chain(parts, row):
    if not parts:
        return not row
    return any(fits(parts[0], row[:k]) and fits_chain(parts[1:], row[k:]) for k in range(len(row) + 1))


def fits_times(told, row):
    _, part, low, high = told
    # More pieces than this are without children, and so could be left out or put in.
    most = low + len(row) if high == -1 else high
    return any(fits_chain((part,) * n, row) for n in range(low, most + 1))


def fits_mixed(parts, row):
    for dealt in product(range(len(parts)), repeat=len(row)):
        if all(fits(part, tuple(child for child, to in zip(row, dealt) if to == k)) for k, part in enumerate(parts)):
            return True
    return False


def bare(told):
    return fits(told, ())


@lru_cache(maxsize=None)
def left(told, forms):
    """Point 11: the frozenset of what is told of the patterns left."""
    kind = told[0]
    if kind == "one":
        return frozenset([EMPTY] if told[1] in forms else [])
    if kind == "choice":
        return frozenset(rest for part in told[1] for rest in left(part, forms))
    if kind == "times":
        _, part, low, high = told
        fewer = times(part, low - 1 if low else 0, -1 if high == -1 else high - 1)
        return frozenset(chain((rest, fewer)) for rest in left(part, forms))
    found = []
    for k, part in enumerate(told[1]):
        ahead, behind = told[1][:k], told[1][k + 1:]
        for rest in left(part, forms):
            if kind == "mixed":
                found.append(mixed(ahead + (rest,) + behind))
            elif all(bare(other) for other in ahead):
                found.append(chain((rest,) + behind))
    return frozenset(found)


def machine(told, letters, most=64):
    """Point 12; None where there are more states than that."""
    states = [frozenset([told])]
    steps = []
    for state in states:
        row = []
        for forms in letters:
            after = frozenset(rest for pattern in state for rest in left(pattern, tuple(forms)))
            if after not in states:
                states.append(after)
            row.append(states.index(after))
        steps.append(tuple(row))
        if len(states) > most:
            return None
    return tuple(steps), tuple(any(bare(pattern) for pattern in state) for state in states)


def sample(chance, names, depth, forms=("a", "b")):
    """A pattern as it is told, with so many names at most, within one another so deep at most."""
    kind = chance.choice(["one", "chain", "choice", "times", "times", "mixed"])
    if depth == 1 or kind == "one":
        return ("one", chance.choice(forms))
    if kind == "times":
        low = chance.choice([0, 0, 1, 2, 3])
        high = chance.choice([-1, low, low + 1, low + 2])
        return times(sample(chance, names, depth - 1, forms), low, high)
    many = chance.randint(1 if kind == "choice" else 0, min(3, names))
    parts = [sample(chance, names // many, depth - 1, forms) for _ in range(many)]
    return {"chain": chain, "choice": choice, "mixed": mixed}[kind](parts)


def split_at(words, sign):
    """The pieces of a list of words between those signs that stand in no bracket; None for wrong brackets."""
    pieces, depth = [[]], 0
    for word in words:
        depth += {"(": 1, ")": -1}.get(word, 0)
        if depth < 0:
            return None
        if word == sign and depth == 0:
            pieces.append([])
        else:
            pieces[-1].append(word)
    return pieces if depth == 0 else None


def read(text):
    """Point 14: what is told of the pattern that a text tells; None where it tells none."""
    return read_split(re.findall("[a-z]+|[^ ]", text, re.DOTALL), 0)


def read_split(words, level):
    """Words read as a choice, a mix or a chain, by the level."""
    if level == 2:
        return read_chain(words)
    pieces = split_at(words, "|&"[level])
    parts = [None] if pieces is None else [read_split(piece, level + 1) for piece in pieces]
    return None if None in parts else [choice, mixed][level](parts)


def read_chain(words):
    parts = []
    while words:
        end = 1
        if words[0] == "(":
            end = next((k for k in range(len(words) + 1) if split_at(words[:k], "") and k > 0), 0)
            part = read_split(words[1:end - 1], 0)
        else:
            part = ("one", words[0]) if re.fullmatch("[a-z]{1,8}", words[0]) else None
        if part is None:
            return None
        told = re.match(r"[?*+]|\{([0-9])(,([0-9])?)?\}|", "".join(words[end:]))
        low, high = {"?": (0, 1), "*": (0, -1), "+": (1, -1), "": (1, 1)}.get(told[0], (None, None))
        if low is None:
            low = int(told[1])
            high = low if told[2] is None else int(told[3] or -1)
        if high != -1 and low > high:
            return None
        parts.append(times(part, low, high))
        words = words[end + len(told[0]):]
    return chain(parts)


def write(chance, told):
    """Point 14: a text of a pattern, with more blanks and brackets than it needs."""
    kind = told[0]
    if kind == "one":
        text = told[1]
    elif kind == "times":
        _, part, low, high = told
        texts = {(0, 1): ["?"], (0, -1): ["*"], (1, -1): ["+"]}.get((low, high), [])
        texts += ["{%d,}" % low if high == -1 else "{%d,%d}" % (low, high)] + ["{%d}" % low] * (low == high)
        text = bracketed(chance, part, ["one"]) + "".join(
            blanks(chance) + sign for sign in chance.choice(texts))
    else:
        sign, bound = {
            "chain": (" ", ["one", "times"]), "mixed": ("&", ["one", "times", "chain"]),
            "choice": ("|", ["one", "times", "chain", "mixed"])}[kind]
        text = sign.join(blanks(chance) + bracketed(chance, part, bound) + blanks(chance) for part in told[1])
    return text


def blanks(chance):
    return " " * chance.choice([0, 0, 0, 1, 2])


def bracketed(chance, told, bound):
    """The text of a part: kinds that bind close need no brackets."""
    text = write(chance, told)
    return f"({text})" if told[0] not in bound or chance.random() < 0.2 else text


@lru_cache(maxsize=None)
def doc_forms(rules, doc):
    """Point 16: the forms of a document, by a tuple of rules (form, name, what is told of the pattern)."""
    row = tuple(doc_forms(rules, child) for child in doc[1])
    return tuple(form for form, name, told in rules if name == doc[0] and fits(told, row))


def all_places(doc, place=()):
    """Point 5: a list of pairs (place, the document there)."""
    found = [(place, doc)]
    for k, child in enumerate(doc[1]):
        found.extend(all_places(child, place + (k,)))
    return found


def is_reading(rules, form, doc, pairs):
    """Point 16: whether a list of pairs is a reading of a document as a form."""
    places = all_places(doc)
    chosen = dict(pairs)
    if [place for place, _ in pairs] != [place for place, _ in places] or chosen[()] != form:
        return False
    told_by_form = {other: (name, told) for other, name, told in rules}
    for place, here in places:
        name, told = told_by_form[chosen[place]]
        row = tuple((chosen[place + (k,)],) for k in range(len(here[1])))
        if here[0] != name or not fits(told, row):
            return False
    return True


def numbered(firsts, step, most=64):
    """Point 18: the states in order; None where there are more than that."""
    states = list(dict.fromkeys(firsts))
    p = 0
    while p < len(states) <= most:
        for q in range(p + 1):
            for state in (step(states[p], states[q]), step(states[q], states[p])):
                if state not in states:
                    states.append(state)
        p += 1
    return states if len(states) <= most else None


def table(forms, names, firsts, step, has, most=64):
    """Points 17 and 18: the machine of these starts, of a function that steps, and of one that tells forms."""
    states = numbered(firsts, step, most)
    if states is None:
        return None
    starts = tuple(states.index(first) for first in firsts)
    steps = tuple(tuple(states.index(step(p, q)) for q in states) for p in states)
    marks = tuple(sum(2 ** k for k, form in enumerate(forms) if has(state, form)) for state in states)
    return tuple(forms), tuple(names), starts, steps, marks


def book_machine(rules, most=64):
    """Point 19; None where there are too many states."""
    forms = [form for form, _, _ in rules]
    names = sorted({name for _, name, _ in rules})

    def has(state, form):
        return any(bare(told) for told in state[forms.index(form)])

    def step(state, child):
        row = tuple(form for form in forms if has(child, form))
        return tuple(frozenset(rest for told in patterns for rest in left(told, row)) for patterns in state)

    firsts = [tuple(frozenset([told] if name == here else []) for _, name, told in rules) for here in names + [None]]
    return table(forms, names, firsts, step, has, most)


def sample_rules(chance, many, names, depth, words=("a", "b")):
    """Rules of a book as tuples (form, name, what is told of the pattern), some of them of leaves, too."""
    rules = []
    for form in "fghijklm"[:many]:
        told = sample(chance, names, depth, "fghijklm"[:many])
        told = chance.choice([told, told, choice([told, EMPTY]), times(told, 0, -1), EMPTY])
        rules.append((form, chance.choice(words), told))
    return tuple(rules)


def state(machine, doc):
    """Point 17."""
    _, names, starts, steps, _ = machine
    here = starts[names.index(doc[0])] if doc[0] in names else starts[-1]
    for child in doc[1]:
        here = steps[here][state(machine, child)]
    return here


def has_form(machine, doc, form):
    return machine[4][state(machine, doc)] // 2 ** machine[0].index(form) % 2 == 1


def sample_machine(chance, many, forms="fg", names="ab"):
    """A machine of any tables with so many states."""
    starts = tuple(chance.randrange(many) for _ in range(len(names) + 1))
    steps = tuple(tuple(chance.randrange(many) for _ in range(many)) for _ in range(many))
    marks = tuple(chance.randrange(2 ** len(forms)) for _ in range(many))
    return tuple(forms), tuple(sorted(names)), starts, steps, marks


def least_sizes(firsts, step):
    """Point 22: the least number of places for each state that comes of these starts by this step."""
    sizes = {first: 1 for first in firsts}
    changed = True
    while changed:
        changed = False
        for p, q in product(list(sizes), repeat=2):
            size = sizes[p] + sizes[q]
            if size < sizes.get(step(p, q), size + 1):
                sizes[step(p, q)] = size
                changed = True
    return sizes


def machine_sizes(machine):
    return least_sizes(machine[2], lambda p, q: machine[3][p][q])


def pair_starts(one, other):
    """The names of two machines and the pairs of states of documents without children."""
    names = sorted({*one[1], *other[1]})
    docs = [(name, ()) for name in names] + [("nosuch", ())]
    return names, [(state(one, doc), state(other, doc)) for doc in docs]


def pair_step(one, other):
    return lambda pair, child: (one[3][pair[0]][child[0]], other[3][pair[1]][child[1]])


def in_form(machine, number, form):
    return machine[4][number] // 2 ** machine[0].index(form) % 2 == 1


def held_step(machine, is_held):
    """Pairs of a state and whether what is held stands below the top."""
    return lambda here, child: (machine[3][here[0]][child[0]], here[1] or child[1] or is_held(child[0]))


def stands(machine, form):
    """Point 25, for each state apart: whether documents with the form come that hold one of that state."""
    found = []
    for held in range(len(machine[4])):
        step = held_step(machine, lambda number, held=held: number == held)
        come = least_sizes([(start, False) for start in machine[2]], step)
        found.append(any(in_form(machine, here, form) and (below or here == held) for here, below in come))
    return tuple(found)


def made_states(machine, makings):
    """The states of what each entry of makings makes, where entries are as point 23 tells; else a failure."""
    states = []
    for entry in makings:
        if len(entry) == 1:
            assert re.fullmatch("[a-z]{1,8}", entry[0])
            states.append(state(machine, (entry[0], ())))
        else:
            assert all(0 <= number < len(states) for number in entry) and len(entry) == 2
            states.append(machine[3][states[entry[0]]][states[entry[1]]])
    return states


def made_size(makings):
    sizes = []
    for entry in makings:
        sizes.append(1 if len(entry) == 1 else sizes[entry[0]] + sizes[entry[1]])
    return sizes[-1]
