"""Books: forms told by rules (point 13)."""

from graftform.bounds import BOOK_RULES
from graftform.errors import NoBook


def first_told_ahead(forms):
    """The number of the first form that stands ahead of itself; None where there is none."""
    for row, form in enumerate(forms):
        if form in forms[:row]:
            return row
    return None


def first_beyond(rules, forms):
    """The number of the first rule whose pattern speaks of another form; None where there is none."""
    for row, rule in enumerate(rules):
        if not all(form in forms for form in rule[2].speaks()):
            return row
    return None


def book_of(rules):
    """The book of a list of rules (form, name, pattern), or NoBook."""
    if not rules:
        raise NoBook(0)
    if len(rules) > BOOK_RULES:
        raise NoBook(BOOK_RULES)
    forms = [rule[0] for rule in rules]
    row = first_told_ahead(forms)
    if row is None:
        row = first_beyond(rules, forms)
    if row is not None:
        raise NoBook(row)
    return tuple([(form, name, pattern) for form, name, pattern in rules])
