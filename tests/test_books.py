import unittest

from graftform.books import book_of
from graftform.errors import NoBook
from graftform.patterns import chain, choice, mixed, one, times
from helping import RefusalCase

A, B, Z = one("a"), one("b"), one("z")
EMPTY = chain([])


def rules(text, pattern=EMPTY):
    """One rule for each sign, which is its form."""
    return [(form, "n", pattern) for form in text]


class Books(RefusalCase):
    def test_books(self):
        told = [("a", "x", times(B)), ("b", "x", choice([A, EMPTY])), ("cccccccc", "y", EMPTY)]
        book = book_of(told)
        self.assertIs(book.__class__, tuple)
        self.assertEqual(book, tuple(told))
        for rule in book:
            self.assertIs(rule.__class__, tuple)

    def test_one_and_eight_rules(self):
        self.assertEqual(book_of(rules("a")), tuple(rules("a")))
        self.assertEqual(book_of(rules("abcdefgh")), tuple(rules("abcdefgh")))

    def test_a_rule_may_speak_of_itself_and_of_later_ones(self):
        told = [("a", "x", chain([A, B, A])), ("b", "x", times(mixed([A, B])))]
        self.assertEqual(book_of(told), tuple(told))

    def test_the_list_stays_the_callers(self):
        told = rules("ab")
        book = book_of(told)
        self.assertEqual(told, rules("ab"))
        told.clear()
        self.assertEqual(book, tuple(rules("ab")))

    def test_no_rules(self):
        self.assert_refused(NoBook, {"row": 0}, book_of, [])

    def test_more_than_eight_rules(self):
        self.assert_refused(NoBook, {"row": 8}, book_of, rules("abcdefghi"))
        self.assert_refused(NoBook, {"row": 8}, book_of, rules("abcdefghijklm"))
        self.assert_refused(NoBook, {"row": 8}, book_of, rules("aaaaaaaaa"))
        self.assert_refused(NoBook, {"row": 8}, book_of, rules("abcdefghi", Z))
        self.assert_refused(NoBook, {"row": 8}, book_of, rules("aaaaaaaaa", Z))

    def test_a_form_told_ahead(self):
        self.assert_refused(NoBook, {"row": 1}, book_of, rules("aa"))
        self.assert_refused(NoBook, {"row": 2}, book_of, rules("aba"))
        self.assert_refused(NoBook, {"row": 2}, book_of, rules("abbaa"))
        self.assert_refused(NoBook, {"row": 7}, book_of, rules("abcdefgg"))
        self.assert_refused(NoBook, {"row": 1}, book_of, [("a", "x", A), ("a", "y", A)])

    def test_a_form_that_is_not_told(self):
        self.assert_refused(NoBook, {"row": 0}, book_of, rules("a", Z))
        self.assert_refused(NoBook, {"row": 1}, book_of, [("a", "x", EMPTY), ("b", "x", chain([A, Z])), ("c", "x", Z)])
        for pattern in (times(Z, 0, 9), mixed([A, Z]), choice([A, chain([A, times(Z)])])):
            self.assert_refused(NoBook, {"row": 2}, book_of, rules("ab", A) + [("c", "x", pattern)])
        # A rule's name is no form.
        self.assert_refused(NoBook, {"row": 0}, book_of, [("a", "z", Z)])

    def test_a_form_told_ahead_comes_first(self):
        self.assert_refused(NoBook, {"row": 2}, book_of, [("a", "x", Z), ("b", "x", Z), ("a", "x", Z)])
        self.assert_refused(NoBook, {"row": 3}, book_of, rules("ab", Z) + rules("cc"))
        self.assert_refused(NoBook, {"row": 7}, book_of, rules("abcdefga", Z))


if __name__ == "__main__":
    unittest.main()
