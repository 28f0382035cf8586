"""The texts of documents (point 7)."""

from graftform.bounds import NAME_LETTERS
from graftform.docs import is_letter
from graftform.errors import NoDocument


def pieces_of(doc):
    """A document's name, brackets and blanks as texts, and its children, still documents, between them."""
    name, children = doc
    if not children:
        return [name]
    pieces = [name]
    for k, child in enumerate(children):
        pieces.append(" " if k > 0 else "(")
        pieces.append(child)
    pieces.append(")")
    return pieces


def show_doc(doc):
    """The text of a document."""
    texts = []
    waiting = [doc]
    while waiting:
        here = waiting.pop()
        if isinstance(here, str):
            texts.append(here)
        else:
            waiting.extend(pieces_of(here)[::-1])
    return "".join(texts)


def sign_at(text, at):
    """The sign at a spot; no sign behind the text's end."""
    return text[at:at + 1]


def name_at(text, at):
    """The name that begins at a spot, or NoDocument. A ninth letter is left to whoever reads on."""
    end = at
    while end < len(text) and end < at + NAME_LETTERS and is_letter(text[end]):
        end += 1
    if end == at:
        raise NoDocument(at)
    return text[at:end]


def closed(text, at, doc, above):
    """The document that ends where the brackets from a spot on are closed, and the spot behind these."""
    while above and sign_at(text, at) == ")":
        name, children = above.pop()
        doc = (name, tuple(children + [doc]))
        at += 1
    return doc, at


def read_doc(text):
    """The document that a text tells, or NoDocument."""
    at = 0
    # The names whose brackets are open, each with the children that are read so far.
    above = []
    while True:
        name = name_at(text, at)
        at += len(name)
        if sign_at(text, at) == "(":
            above.append((name, []))
            at += 1
            continue
        doc, at = closed(text, at, (name, ()), above)
        wanted = " " if above else ""
        if sign_at(text, at) != wanted:
            raise NoDocument(at)
        if not above:
            return doc
        above[-1][1].append(doc)
        at += 1
