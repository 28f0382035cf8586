"""What several tests need."""

import unittest

from graftform import errors

REFUSALS = (
    errors.NoPlace, errors.NoName, errors.NoDocument, errors.NoPattern, errors.NoBook,
    errors.NoForm, errors.NoTurner, errors.NoRow, errors.TooLarge, errors.TooMany,
)


class RefusalCase(unittest.TestCase):
    """A test that looks closely at refusals."""

    def assert_refused(self, refusal, fields, call, *things):
        """The call is refused with just this refusal, and it has these fields."""
        try:
            got = call(*things)
        except ValueError as error:
            caught = error
        else:
            self.fail(f"{things!r:.200} was not refused, but gave {got!r:.200}")
        self.assertIsInstance(caught, errors.GraftError)
        self.assertEqual([kind for kind in REFUSALS if isinstance(caught, kind)], [refusal])
        for field, worth in fields.items():
            self.assertEqual(getattr(caught, field), worth)
            self.assertIs(getattr(caught, field).__class__, worth.__class__)


def tower(height, name="a"):
    """A document of this height with one child below each."""
    doc = (name, ())
    for _ in range(height - 1):
        doc = (name, (doc,))
    return doc


def fan(children, name="a"):
    """A document with so many children, all without children."""
    return (name, tuple(("b", ()) for _ in range(children)))


def small_docs(size, names=("a", "b")):
    """All documents of so many places with these names."""
    return [(name, row) for name in names for row in small_rows(size - 1, names)]


def small_rows(size, names):
    """All tuples of documents with so many places in all."""
    if size == 0:
        return [()]
    found = []
    for first in range(1, size + 1):
        for doc in small_docs(first, names):
            found.extend((doc,) + rest for rest in small_rows(size - first, names))
    return found


def counter(many, forms="f", at=0):
    """A machine that counts the places beyond the first, from nought again behind so many; one state has all forms."""
    steps = tuple(tuple((p + q + 1) % many for q in range(many)) for p in range(many))
    return tuple(forms), (), (0,), steps, tuple((2 ** len(forms) - 1) * (state == at) for state in range(many))
