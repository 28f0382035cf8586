import itertools
import random
import unittest

import plain
from graftform.errors import TooMany
from graftform.patterns import chain, choice, mixed, one, pattern_of, times
from graftform.rows import row_fits, row_machine
from helping import RefusalCase

A, B, C = one("a"), one("b"), one("c")


def row_of(text):
    """A row of children with one form each."""
    return [[sign] for sign in text]


class Fitting(unittest.TestCase):
    def assert_fits(self, pattern, fitting, other):
        for text in fitting:
            self.assertIs(row_fits(pattern, row_of(text)), True, text)
        for text in other:
            self.assertIs(row_fits(pattern, row_of(text)), False, text)

    def test_each_kind(self):
        self.assert_fits(A, ["a"], ["", "b", "aa", "ab"])
        self.assert_fits(chain([]), [""], ["a"])
        self.assert_fits(chain([A, B, A]), ["aba"], ["", "ab", "abab", "aab", "baa"])
        self.assert_fits(choice([A, chain([B, B])]), ["a", "bb"], ["", "b", "abb", "bba", "aa"])
        self.assert_fits(times(A, 2, 3), ["aa", "aaa"], ["", "a", "aaaa", "ab"])
        self.assert_fits(times(A), ["", "a", "a" * 64], ["b", "ab"])
        self.assert_fits(mixed([chain([A, B]), C]), ["abc", "acb", "cab"], ["", "ab", "bac", "cba", "abcc", "aabc"])
        self.assert_fits(mixed([A, A]), ["aa"], ["", "a", "aaa"])

    def test_pieces_without_children(self):
        self.assert_fits(times(times(A, 0, 1), 3, 3), ["", "a", "aa", "aaa"], ["aaaa"])
        self.assert_fits(times(choice([chain([]), chain([A, A])]), 2, 3), ["", "aa", "aaaa", "aaaaaa"], ["a", "aaa"])
        self.assert_fits(chain([times(A), B, times(A)]), ["b", "ab", "ba", "aabaa"], ["", "a", "abab"])
        self.assert_fits(mixed([times(A), times(B)]), ["", "abab", "ba"], ["c"])

    def test_children_with_several_forms_or_none(self):
        self.assertTrue(row_fits(chain([A, B]), [["a", "b"], ["b", "a"]]))
        self.assertTrue(row_fits(chain([A, B]), [["a", "a", "a"], ["x", "b", "b"]]))
        self.assertFalse(row_fits(chain([A, B]), [["a"], []]))
        self.assertFalse(row_fits(A, [[]]))
        self.assertFalse(row_fits(A, [["x", "y"]]))
        self.assertFalse(row_fits(chain([]), [[]]))
        self.assertFalse(row_fits(times(A), [["a"], [], ["a"]]))
        self.assertTrue(row_fits(mixed([A, B]), [["a", "b"], ["a"]]))
        self.assertTrue(row_fits(mixed([A, B]), [["a", "b"], ["b"]]))
        self.assertFalse(row_fits(mixed([A, B]), [["a"], ["a"]]))

    def test_small_rows_by_all_cuts_and_dealings(self):
        chance = random.Random(1)
        letters = (("a",), ("b",), ("a", "b"), ())
        fitting = 0
        for _ in range(250):
            told = plain.sample(chance, 6, 4)
            pattern = pattern_of(told)
            for size in range(4):
                for row in itertools.product(letters, repeat=size):
                    expected = plain.fits(told, row)
                    self.assertIs(row_fits(pattern, [list(forms) for forms in row]), expected, (told, row))
                    fitting += expected
        self.assertGreater(fitting, 1000)

    def test_a_row_fits_just_where_its_rest_fits_what_is_left(self):
        chance = random.Random(3)
        for _ in range(100):
            pattern = pattern_of(plain.sample(chance, 6, 4))
            for text in map("".join, itertools.product("ab", repeat=3)):
                row = row_of(text)
                left = pattern.left(row[0])
                self.assertIs(row_fits(pattern, row), any([row_fits(rest, row[1:]) for rest in left]))

    def test_the_row_stays(self):
        row = [["b", "a", "b"], ["z"]]
        row_fits(mixed([A, B]), row)
        self.assertEqual(row, [["b", "a", "b"], ["z"]])

    def test_long_rows(self):
        nested = times(times(times(times(A))))
        self.assert_fits(nested, ["a" * 64], ["a" * 63 + "b", "a" * 31 + "b" + "a" * 32])
        counted = times(times(times(A, 0, 9), 0, 9), 0, 9)
        self.assert_fits(counted, ["a" * 64], ["a" * 63 + "b"])
        self.assert_fits(times(times(A, 7, 7), 9, 9), ["a" * 63], ["a" * 62, "a" * 64])
        dealt = mixed([times(chain([A, A, B])), times(chain([A, B, A])), times(B, 0, 9)])
        self.assert_fits(dealt, ["aab" * 21, "aba" * 20 + "bbbb", "ab" * 18], ["a" * 64, "b" * 64, "ab" * 32])
        sure = [["a", "b"]] * 64
        self.assertTrue(row_fits(times(mixed([A, B, chain([A, B])])), sure))
        self.assertFalse(row_fits(times(mixed([A, B, A])), sure))
        self.assertTrue(row_fits(times(mixed([A, B, A])), sure[:63]))

    def test_a_thousand_patterns_at_once(self):
        parts = [times(A, 0, 9), times(B, 0, 9), times(C, 0, 9), times(one("d"), 0, 9)]
        row = [["a", "b", "c", "d"]] * 36
        self.assertTrue(row_fits(mixed(parts), row))
        self.assertFalse(row_fits(mixed(parts), row + [["a"]]))
        names = mixed([one(name) for name in "abcdefghijkl"])
        self.assertTrue(row_fits(names, [list("abcdefghijkl")] * 12))
        self.assertFalse(row_fits(names, [list("abcdefghijkl")] * 11 + [["z"]]))


class Machines(RefusalCase):
    def test_states_come_in_order(self):
        self.assertEqual(row_machine(chain([A, B]), [["a"], ["b"]]), (((1, 2), (2, 3), (2, 2), (2, 2)),
                                                                     (False, False, False, True)))
        self.assertEqual(row_machine(chain([A, B]), [["b"], ["a"]]), (((1, 2), (1, 1), (3, 1), (1, 1)),
                                                                     (False, False, False, True)))
        self.assertEqual(row_machine(times(A), [["a"]]), (((0,),), (True,)))
        self.assertEqual(row_machine(times(A, 2), [["a"], []]), (((1, 2), (3, 2), (2, 2), (3, 2)),
                                                                (False, False, False, True)))

    def test_a_state_is_a_set_of_patterns(self):
        # Behind a and b come the same patterns in unlike order: that is one state.
        pattern = choice([chain([A, B]), chain([A, C]), chain([one("d"), C]), chain([one("d"), B])])
        steps, ends = row_machine(pattern, [["a"], ["d"], ["b"]])
        self.assertEqual(steps[0], (1, 1, 2))
        self.assertEqual(steps[1], (2, 2, 3))
        self.assertEqual(ends, (False, False, False, True))

    def test_no_letters(self):
        self.assertEqual(row_machine(chain([A, B]), []), (((),), (False,)))
        self.assertEqual(row_machine(chain([]), []), (((),), (True,)))

    def test_letters_alike(self):
        self.assertEqual(row_machine(A, [["a"], ["a", "a", "x"]]), (((1, 1), (2, 2), (2, 2)), (False, True, False)))
        self.assertEqual(row_machine(A, [["x"], []]), (((1, 1), (1, 1)), (False, False)))

    def test_kinds_of_values(self):
        steps, ends = row_machine(mixed([A, times(B)]), [["a"], ["b"]])
        self.assertIs(steps.__class__, tuple)
        self.assertIs(ends.__class__, tuple)
        for row, end in zip(steps, ends):
            self.assertIs(row.__class__, tuple)
            self.assertIs(end.__class__, bool)

    def test_as_the_point_tells(self):
        chance = random.Random(5)
        letters = (["a"], ["b", "z"], ["b", "a", "a"], [], ["a"])
        refused = 0
        for _ in range(400):
            told = plain.sample(chance, 8, 4)
            expected = plain.machine(told, letters)
            if expected is None:
                refused += 1
                self.assert_refused(TooMany, {}, row_machine, pattern_of(told), letters)
            else:
                self.assertEqual(row_machine(pattern_of(told), letters), expected)
        self.assertGreater(refused, 3)
        self.assertEqual(letters, (["a"], ["b", "z"], ["b", "a", "a"], [], ["a"]))

    def test_just_64_states(self):
        nines = [times(A, 9, 9)] * 6
        steps, ends = row_machine(chain(nines + [times(A, 8, 8)]), [["a"]])
        self.assertEqual(steps, tuple((min(k + 1, 63),) for k in range(64)))
        self.assertEqual(ends, tuple(k == 62 for k in range(64)))
        steps, ends = row_machine(chain(nines + [times(A, 9)]), [["a"]])
        self.assertEqual(steps, tuple((min(k + 1, 63),) for k in range(64)))
        self.assertEqual(ends, tuple(k == 63 for k in range(64)))

    def test_more_than_64_states(self):
        nines = [times(A, 9, 9)] * 6
        self.assert_refused(TooMany, {}, row_machine, chain(nines + [times(A, 9, 9)]), [["a"]])
        self.assert_refused(TooMany, {}, row_machine, chain(nines + [times(A, 9)]), [["a"], ["z"]])
        self.assert_refused(TooMany, {}, row_machine, times(times(A, 9, 9), 9, 9), [["z"], ["a"]])

    def test_what_is_told_agrees_with_rows(self):
        pattern = mixed([times(chain([A, B])), times(C, 0, 2)])
        letters = [["a"], ["b"], ["c"]]
        steps, ends = row_machine(pattern, letters)
        for size in range(5):
            for word in itertools.product(range(3), repeat=size):
                state = 0
                for letter in word:
                    state = steps[state][letter]
                self.assertIs(ends[state], row_fits(pattern, [letters[letter] for letter in word]))


if __name__ == "__main__":
    unittest.main()
