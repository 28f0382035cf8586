"""A desk, which keeps books, documents and turners by names and answers rows (point 37)."""

from graftform.back import comes, turns
from graftform.booktexts import read_book
from graftform.docs import is_name
from graftform.doctexts import read_doc, show_doc
from graftform.errors import NoForm, NoName, NoRow
from graftform.kept import Kept
from graftform.machines import machine_of
from graftform.papers import each_is
from graftform.placetexts import read_place, show_place
from graftform.prices import grown, least
from graftform.turners import chained, turned
from graftform.turntexts import read_turner

DONE = "ok"
NONE = "-"


def kept_by(kept, name):
    """What is kept by a name, or NoName."""
    if name not in kept:
        raise NoName(name)
    return kept[name]


def word_name(desk, word, ahead):
    """A word that is a name, or NoName."""
    if not is_name(word):
        raise NoName(word)
    return word


def word_book(desk, word, ahead):
    """The machine of the book that is kept by a word, or NoName."""
    return kept_by(desk.books, word)


def word_doc(desk, word, ahead):
    """The document that is kept by a word, or NoName."""
    return kept_by(desk.docs, word)


def word_turner(desk, word, ahead):
    """The turner that is kept by a word, or NoName."""
    return kept_by(desk.turners, word)


def word_form(desk, word, ahead):
    """A word that is a form of the book right ahead of it, or NoForm."""
    machine = ahead[-1]
    if word not in machine[0]:
        raise NoForm(word)
    return word


def word_place(desk, word, ahead):
    """The place that a word tells, or NoRow."""
    return read_place(word)


def text_book(desk, word, ahead):
    """The book that a text tells, or NoBook."""
    return read_book(word)


def text_doc(desk, word, ahead):
    """The document that a text tells, or NoDocument."""
    return read_doc(word)


def text_turner(desk, word, ahead):
    """The turner that a text tells, or NoTurner."""
    return read_turner(word)


def tell_book(desk, told):
    """Keep a book's machine."""
    name, book = told
    desk.books[name] = machine_of(book)
    return DONE


def tell_turner(desk, told):
    """Keep a turner."""
    name, turner = told
    desk.turners[name] = turner
    return DONE


def tell_doc(desk, told):
    """Keep a document with a book's machine."""
    name, machine, doc = told
    desk.docs[name] = Kept(machine, doc)
    return DONE


def answer_show(desk, told):
    """A document's text."""
    return show_doc(told[0].now())


def answer_forms(desk, told):
    """The forms at a place of a document."""
    kept, place = told
    return " ".join(kept.forms_at(place)) or NONE


def show_looked(kept):
    """The places that the last change looked at."""
    return " ".join([show_place(place) for place in kept.looked()])


def change_put(desk, told):
    """Put a new document in."""
    kept, place, doc = told
    kept.put(place, doc)
    return show_looked(kept)


def change_cut(desk, told):
    """Take a document out."""
    kept, place = told
    kept.cut(place)
    return show_looked(kept)


def change_rename(desk, told):
    """Give a place another name."""
    kept, place, name = told
    kept.rename(place, name)
    return show_looked(kept)


def tell_turn(desk, told):
    """Keep the turned document, where the turned row is just one."""
    name, turner, kept, machine = told
    row = turned(turner, kept.now())
    if len(row) != 1:
        return NONE
    desk.docs[name] = Kept(machine, row[0])
    return DONE


def yes_or_no(makings):
    """The answer by the makings of a document of which it isn't so, None where there is none."""
    return "yes" if makings is None else "no " + show_doc(grown(makings))


def answer_each(desk, told):
    """Whether each document of a form is one of another form."""
    one, form, other, goal = told
    return yes_or_no(each_is(one, form, other, goal)[0])


def answer_turns(desk, told):
    """Whether each document of a form is turned into one of another form."""
    turner, one, form, other, goal = told
    return yes_or_no(turns(turner, one, form, other, goal)[0])


def answer_least(desk, told):
    """A least document of a form."""
    machine, form = told
    makings = least(machine, form)
    return NONE if makings is None else show_doc(grown(makings))


def tell_chain(desk, told):
    """Keep the turner that does what two do."""
    name, first, second = told
    desk.turners[name] = chained(first, second)
    return DONE


def show_sets(sets):
    """The text of sets of forms."""
    return "|".join(["+".join(forms) or NONE for forms in sets])


def answer_comes(desk, told):
    """What comes at the places of a turner."""
    turner, one, form, other = told
    found = comes(turner, one, form, other)
    return "; ".join([f"{name}:{show_place(place)}={show_sets(sets)}" for name, place, sets in found])


# How each kind of word is looked at: the desk, the word, and the list of what the words ahead told.
LOOKS = {
    "name": word_name,
    "book": word_book,
    "doc": word_doc,
    "turner": word_turner,
    "form": word_form,
    "place": word_place,
    "book's text": text_book,
    "doc's text": text_doc,
    "turner's text": text_turner,
}
# The kinds of the words of each row, behind its first one.
ROWS = {
    "book": ("name", "book's text"),
    "turner": ("name", "turner's text"),
    "doc": ("name", "book", "doc's text"),
    "show": ("doc",),
    "forms": ("doc", "place"),
    "put": ("doc", "place", "doc's text"),
    "cut": ("doc", "place"),
    "rename": ("doc", "place", "name"),
    "turn": ("name", "turner", "doc", "book"),
    "each": ("book", "form", "book", "form"),
    "turns": ("turner", "book", "form", "book", "form"),
    "least": ("book", "form"),
    "chain": ("name", "turner", "turner"),
    "comes": ("turner", "book", "form", "book"),
}
DEEDS = {
    "book": tell_book,
    "turner": tell_turner,
    "doc": tell_doc,
    "show": answer_show,
    "forms": answer_forms,
    "put": change_put,
    "cut": change_cut,
    "rename": change_rename,
    "turn": tell_turn,
    "each": answer_each,
    "turns": answer_turns,
    "least": answer_least,
    "chain": tell_chain,
    "comes": answer_comes,
}


def words_of_row(row):
    """The words of a row, its text being one; or NoRow."""
    if not isinstance(row, str):
        raise NoRow("a row is a text")
    first = row.partition(" ")[0]
    if first not in ROWS:
        raise NoRow("no row begins so")
    kinds = ROWS[first]
    # A text is all that is left of the row: blanks part no words there.
    words = row.split(" ", len(kinds)) if kinds[-1].endswith("text") else row.split(" ")
    if len(words) != len(kinds) + 1:
        raise NoRow("a row with a wrong number of words")
    return words


class Desk:
    """Keeps machines of books, documents and turners by names, each kind apart."""

    def __init__(self):
        self.books = {}
        self.docs = {}
        self.turners = {}

    def say(self, row):
        """The answer to a row, a text; or a refusal, and then nothing is changed."""
        words = words_of_row(row)
        told = []
        for kind, word in zip(ROWS[words[0]], words[1:]):
            look = LOOKS[kind]
            told.append(look(self, word, told))
        deed = DEEDS[words[0]]
        return deed(self, told)
