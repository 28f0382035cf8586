"""The plain reading of documents by a book (point 16)."""

from graftform.docs import laid_out
from graftform.errors import NoForm
from graftform.rows import LeftSets


def sets_of(book):
    """What is left of each rule's pattern, by its form."""
    return {form: LeftSets(pattern) for form, name, pattern in book}


def forms_of_places(book, sets, laid):
    """The forms of what stands at each place of a document that is laid out, by the places' numbers."""
    forms = {}
    for number in reversed(range(len(laid))):
        place, here, below = laid[number]
        row = [forms[child] for child in below]
        forms[number] = [form for form, name, pattern in book if name == here and sets[form].fitted(row)]
    return forms


def plain_forms(book, doc):
    """The list of the forms that a document has, in the book's order."""
    return forms_of_places(book, sets_of(book), laid_out(doc))[0]


def step_before(left, number, forms, wanted):
    """A pattern of a set, by its spelling, and a form of a child behind which the wanted one is left of it."""
    letter = left.letter(forms)
    before = [pattern for pattern in left.sets[number] if wanted in left.left_of(pattern, letter)][0]
    # Each pattern that is left comes of one form of the child, whatever others the child has.
    chosen = [form for form in letter if wanted in left.left_of(before, (form,))][0]
    return before.spelling, chosen


def one_each(left, row):
    """One form of each child of a row that fits, such that the row fits by these alone."""
    numbers = left.line(row)
    wanted = [pattern.spelling for pattern in left.sets[numbers[-1]] if pattern.bare()][0]
    chosen = []
    for at in reversed(range(len(row))):
        wanted, form = step_before(left, numbers[at], row[at], wanted)
        chosen.append(form)
    return chosen[::-1]


def reading(book, form, doc):
    """A list of pairs (place, form) that reads a document as a form, None where it hasn't it; or NoForm."""
    sets = sets_of(book)
    if form not in sets:
        raise NoForm(form)
    laid = laid_out(doc)
    forms = forms_of_places(book, sets, laid)
    if form not in forms[0]:
        return None
    chosen = {0: form}
    for number, (place, name, below) in enumerate(laid):
        picked = one_each(sets[chosen[number]], [forms[child] for child in below])
        for child, child_form in zip(below, picked):
            chosen[child] = child_form
    return [(place, chosen[number]) for number, (place, name, below) in enumerate(laid)]
