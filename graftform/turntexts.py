"""The texts of turners (point 31)."""

from graftform.books import first_told_ahead
from graftform.bounds import TURNER_RULES
from graftform.docs import is_name
from graftform.doctexts import closed, name_at, show_doc, sign_at
from graftform.errors import NoDocument, NoTurner
from graftform.turners import HOLE

ARROW = " ->"


def item_at(text, at):
    """The hole, or the item without items in it, that begins at a spot, and the spot behind it; or NoDocument."""
    if sign_at(text, at) == HOLE:
        return HOLE, at + 1
    name = name_at(text, at)
    return (name, ()), at + len(name)


def read_items(text):
    """The items that a text tells, which are written as documents are; or NoDocument."""
    items = []
    # The names whose brackets are open, each with the items that are read so far.
    above = []
    at = 0
    while True:
        item, at = item_at(text, at)
        if item != HOLE and sign_at(text, at) == "(":
            above.append((item[0], []))
            at += 1
            continue
        item, at = closed(text, at, item, above)
        row = above[-1][1] if above else items
        row.append(item)
        if at == len(text) and not above:
            return tuple(items)
        if sign_at(text, at) != " ":
            raise NoDocument(at)
        at += 1


def read_turner_rule(text, row):
    """The rule that a text tells, or NoTurner with its number."""
    name, arrow, rest = text.strip(" ").partition(ARROW)
    if not is_name(name) or not arrow:
        raise NoTurner(row)
    if not rest:
        return (name, ())
    if not rest.startswith(" "):
        raise NoTurner(row)
    try:
        return (name, read_items(rest[1:]))
    except NoDocument:
        raise NoTurner(row) from None


def read_turner(text):
    """The turner that a text tells, or NoTurner."""
    if not text.strip(" "):
        return ()
    texts = text.split(";")
    if len(texts) > TURNER_RULES:
        raise NoTurner(TURNER_RULES)
    rules = [read_turner_rule(part, row) for row, part in enumerate(texts)]
    row = first_told_ahead([name for name, items in rules])
    if row is not None:
        raise NoTurner(row)
    return tuple(rules)


def show_turner_rule(name, items):
    """The text of a rule."""
    # Items are written as documents are, and a hole is its own text.
    texts = [" " + show_doc(item) for item in items]
    return name + ARROW + "".join(texts)


def show_turner(turner):
    """The text of a turner."""
    return "; ".join([show_turner_rule(name, items) for name, items in turner])
