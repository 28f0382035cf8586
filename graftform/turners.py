"""Turners, which make rows of documents of documents, and two of them made one (points 30 and 32)."""

from graftform.bounds import DOC_PLACES, ITEMS_WITHIN, RULE_ITEMS, TURNER_RULES
from graftform.docs import laid_out
from graftform.errors import TooLarge, TooMany

HOLE = "*"


def items_for(rules, name):
    """The items of a name's rule; a name without one is turned as if its rule were `NAME -> NAME(*)`."""
    return rules.get(name, ((name, (HOLE,)),))


def has_hole(items):
    """Whether there is a hole among the items, at any depth."""
    return any(item == HOLE or has_hole(item[1]) for item in items)


def filled(items, row):
    """The items with a row, of documents or of items, in the stead of each hole."""
    found = []
    for item in items:
        if item == HOLE:
            found.extend(row)
        else:
            found.append((item[0], filled(item[1], row)))
    return tuple(found)


def filled_size(items, size):
    """How many there are at all depths of the items, where so many stand in the stead of each hole."""
    return sum([size if item == HOLE else 1 + filled_size(item[1], size) for item in items])


def filled_height(items, height):
    """How many of the items stand within one another, where so many do in the stead of each hole."""
    return max([height if item == HOLE else 1 + filled_height(item[1], height) for item in items], default=0)


def size_turned(rules, laid):
    """The number of places of the row into which a document that is laid out is turned."""
    sizes = {}
    for number in reversed(range(len(laid))):
        place, name, below = laid[number]
        sizes[number] = filled_size(items_for(rules, name), sum([sizes[child] for child in below]))
    return sizes[0]


def turned_size(turner, doc):
    """The number of places of the row into which a document is turned."""
    return size_turned(dict(turner), laid_out(doc))


def numbers_needed(rules, laid):
    """The numbers of the places whose turned rows stand in that of the top; what is left out may be far too great."""
    needed = {0: True}
    for number, (place, name, below) in enumerate(laid):
        if number in needed and has_hole(items_for(rules, name)):
            needed.update({child: True for child in below})
    return sorted(needed)


def turned(turner, doc):
    """The row, a tuple, of the documents into which a document is turned; or TooLarge."""
    rules = dict(turner)
    laid = laid_out(doc)
    size = size_turned(rules, laid)
    if size > DOC_PLACES:
        raise TooLarge(size)
    rows = {}
    for number in reversed(numbers_needed(rules, laid)):
        place, name, below = laid[number]
        inner = [each for child in below if child in rows for each in rows[child]]
        rows[number] = filled(items_for(rules, name), inner)
    return rows[0]


def measures_of(rules, items):
    """How many items at all depths, and how many within one another, the rules make of items; holes count and stay."""
    size = 0
    height = 0
    for item in items:
        if item == HOLE:
            made = (1, 1)
        else:
            inner = measures_of(rules, item[1])
            own = items_for(rules, item[0])
            made = (filled_size(own, inner[0]), filled_height(own, inner[1]))
        size += made[0]
        height = max(height, made[1])
    return size, height


def items_turned(rules, items):
    """The items that the rules make of items, in which holes stay."""
    found = []
    for item in items:
        if item == HOLE:
            found.append(HOLE)
        else:
            own = items_for(rules, item[0])
            # What is left out may be far too great to be made.
            inner = items_turned(rules, item[1]) if has_hole(own) else ()
            found.extend(filled(own, inner))
    return tuple(found)


def chained(first, second):
    """The turner that does what the first one does and then what the second does, or TooMany."""
    ahead = dict(first)
    behind = dict(second)
    names = [name for name, items in first] + [name for name, items in second if name not in ahead]
    if len(names) > TURNER_RULES:
        raise TooMany("a turner has twelve rules at most")
    rules = []
    for name in names:
        items = items_for(ahead, name)
        size, height = measures_of(behind, items)
        if size > RULE_ITEMS or height > ITEMS_WITHIN:
            raise TooMany("a turner's rule has 40 items at most, 8 of them within one another")
        rules.append((name, items_turned(behind, items)))
    return tuple(rules)
