"""Names, documents, their places, and changed documents (points 4, 5 and 6)."""

from graftform.bounds import NAME_LETTERS
from graftform.errors import NoName, NoPlace
from graftform.wholes import is_between


def is_letter(sign):
    """Whether a sign is one of a to z; other alphabets' letters are none here."""
    return "a" <= sign <= "z"


def is_name(thing):
    """Whether any thing is a name."""
    if not isinstance(thing, str) or not 1 <= len(thing) <= NAME_LETTERS:
        return False
    return all(is_letter(sign) for sign in thing)


def has_doc_shape(thing):
    """Whether a thing is a document as far as this shows without a look at its children."""
    if not isinstance(thing, tuple) or len(thing) != 2:
        return False
    return is_name(thing[0]) and isinstance(thing[1], tuple)


def is_document(thing):
    """Whether any thing is a document."""
    # A list of what is still to be seen, here and below: high documents need no deep calls so.
    waiting = [thing]
    while waiting:
        here = waiting.pop()
        if not has_doc_shape(here):
            return False
        waiting.extend(here[1])
    return True


def size_of(doc):
    """The number of places of a document."""
    size = 0
    waiting = [doc]
    while waiting:
        here = waiting.pop()
        size += 1
        waiting.extend(here[1])
    return size


def height_of(doc):
    """The height of a document: 1 without children."""
    height = 0
    level = [doc]
    while level:
        height += 1
        level = [child for here in level for child in here[1]]
    return height


def laid_out(doc):
    """For each place in order a tuple: the place, the name there, the list of the numbers of its children.

    A place's number is where it stands in this order, so children have greater ones than what is above them.
    """
    laid = []
    waiting = [((), doc, None)]
    while waiting:
        place, here, above = waiting.pop()
        number = len(laid)
        laid.append((place, here[0], []))
        if above is not None:
            laid[above][2].append(number)
        below = [(place + (k,), child, number) for k, child in enumerate(here[1])]
        waiting.extend(below[::-1])
    return laid


def places_of(doc):
    """The places of a document in order: each ahead of those below it, child by child."""
    return [place for place, name, below in laid_out(doc)]


def line_down(doc, place):
    """The documents at the places from the top down to a place, both counted; None where it is no place."""
    if not isinstance(place, tuple):
        return None
    line = [doc]
    for k in place:
        children = line[-1][1]
        # Python counts numbers below nought from the end; no place does.
        if not is_between(k, 0, len(children) - 1):
            return None
        line.append(children[k])
    return line


def line_up(line, place, changed):
    """The whole document of a line down to a place, where a changed one stands in its last one's stead."""
    for depth in reversed(range(len(place))):
        name, children = line[depth]
        k = place[depth]
        changed = (name, children[:k] + (changed,) + children[k + 1:])
    return changed


def at_place(doc, place):
    """The document at a place, or NoPlace."""
    line = line_down(doc, place)
    if line is None:
        raise NoPlace(place)
    return line[-1]


def line_above(doc, place):
    """The line down to the place right above a place; None where there is none above, and for the top."""
    if not isinstance(place, tuple) or not place:
        return None
    return line_down(doc, place[:-1])


def put_in(doc, place, new):
    """The document with a new one at a place, ahead of the children that stood from there on; or NoPlace."""
    line = line_above(doc, place)
    if line is None or not is_between(place[-1], 0, len(line[-1][1])):
        raise NoPlace(place)
    name, children = line[-1]
    k = place[-1]
    return line_up(line, place[:-1], (name, children[:k] + (new,) + children[k:]))


def taken_out(doc, place):
    """The document without what stands at a place other than the top, or NoPlace."""
    line = line_above(doc, place)
    if line is None or not is_between(place[-1], 0, len(line[-1][1]) - 1):
        raise NoPlace(place)
    name, children = line[-1]
    k = place[-1]
    return line_up(line, place[:-1], (name, children[:k] + children[k + 1:]))


def renamed(doc, place, name):
    """The document with another name at a place, or NoPlace, or then NoName."""
    line = line_down(doc, place)
    if line is None:
        raise NoPlace(place)
    if not is_name(name):
        raise NoName(name)
    return line_up(line, place, (name, line[-1][1]))
