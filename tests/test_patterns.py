import itertools
import random
import unittest

import plain
from graftform import patterns
from graftform.errors import NoPattern
from graftform.patterns import chain, choice, mixed, one, pattern_of, times
from graftform.rows import row_fits
from helping import RefusalCase

A, B, C = one("a"), one("b"), one("c")
TA, TB, TC = ("one", "a"), ("one", "b"), ("one", "c")
EMPTY = ("chain", ())


def told_all(found):
    return sorted(pattern.told() for pattern in found)


def samples(many, names=6, depth=4):
    chance = random.Random(2)
    return [plain.sample(chance, names, depth) for _ in range(many)]


class Kinds(unittest.TestCase):
    def test_classes(self):
        made = {
            "One": A, "Chain": chain([A, B]), "Choice": choice([A, B]), "Times": times(A), "Mixed": mixed([A, B])}
        for name, pattern in made.items():
            kind = getattr(patterns, name)
            self.assertIs(pattern.__class__, kind)
            self.assertEqual(kind.__bases__, (patterns.Pattern,))
        for name in list(made) + ["Pattern"]:
            for method in ("told", "bare", "left", "speaks"):
                self.assertIn(method, vars(getattr(patterns, name)))

    def test_told(self):
        self.assertEqual(A.told(), TA)
        self.assertEqual(one("abcdefgh").told(), ("one", "abcdefgh"))
        self.assertEqual(chain([A, B]).told(), ("chain", (TA, TB)))
        self.assertEqual(chain([A, A]).told(), ("chain", (TA, TA)))
        self.assertEqual(chain([]).told(), EMPTY)
        self.assertEqual(choice([A, B]).told(), ("choice", (TA, TB)))
        self.assertEqual(mixed([A, B]).told(), ("mixed", (TA, TB)))
        self.assertEqual(mixed([A, A]).told(), ("mixed", (TA, TA)))
        self.assertEqual(times(A).told(), ("times", TA, 0, -1))
        self.assertEqual(times(A, 2).told(), ("times", TA, 2, -1))
        self.assertEqual(times(A, 0, 1).told(), ("times", TA, 0, 1))
        self.assertEqual(times(times(A, 1), 3, 9).told(), ("times", ("times", TA, 1, -1), 3, 9))

    def test_speaks(self):
        self.assertEqual(A.speaks(), ["a"])
        self.assertEqual(chain([]).speaks(), [])
        for make in (chain, choice, mixed):
            self.assertEqual(make([C, times(B), make([A, B]), C]).speaks(), ["a", "b", "c"])
        self.assertEqual(times(choice([B, A])).speaks(), ["a", "b"])

    def test_spelled_alike_just_where_told_alike(self):
        spelled = {}
        for told in samples(3000):
            pattern = pattern_of(told)
            self.assertEqual(spelled.setdefault(pattern.spelling, told), told)
        self.assertEqual(len(set(spelled.values())), len(spelled))
        self.assertGreater(len(spelled), 700)


class Making(RefusalCase):
    def test_chain(self):
        self.assertEqual(chain([chain([A, B]), C]).told(), ("chain", (TA, TB, TC)))
        self.assertEqual(chain([A, chain([B, C])]).told(), ("chain", (TA, TB, TC)))
        self.assertEqual(chain([A, chain([]), B]).told(), ("chain", (TA, TB)))
        self.assertEqual(chain([A]).told(), TA)
        self.assertEqual(chain([chain([]), A, chain([])]).told(), TA)
        self.assertEqual(chain([chain([]), chain([])]).told(), EMPTY)
        self.assertEqual(chain([choice([A, B]), mixed([A, B])]).told(),
                         ("chain", (("choice", (TA, TB)), ("mixed", (TA, TB)))))
        self.assertIs(chain([B]), B)

    def test_choice(self):
        self.assertEqual(choice([choice([A, B]), C]).told(), ("choice", (TA, TB, TC)))
        self.assertEqual(choice([C, choice([B, A])]).told(), ("choice", (TC, TB, TA)))
        self.assertEqual(choice([A, B, one("a"), B]).told(), ("choice", (TA, TB)))
        self.assertEqual(choice([B, A, choice([A, C]), B]).told(), ("choice", (TB, TA, TC)))
        self.assertEqual(choice([A, one("a")]).told(), TA)
        self.assertEqual(choice([A]).told(), TA)
        self.assertEqual(choice([chain([A, B]), chain([A, B])]).told(), ("chain", (TA, TB)))
        self.assertEqual(choice([chain([A, B]), chain([B, A])]).told(),
                         ("choice", (("chain", (TA, TB)), ("chain", (TB, TA)))))
        self.assertEqual(choice([times(A, 0, 2), times(A, 0, 3), times(A), times(A, 0, 2)]).told(),
                         ("choice", (("times", TA, 0, 2), ("times", TA, 0, 3), ("times", TA, 0, -1))))
        self.assertEqual(choice([chain([]), A, chain([])]).told(), ("choice", (EMPTY, TA)))
        self.assertEqual(choice([chain([]), chain([])]).told(), EMPTY)
        self.assertEqual(choice([mixed([A, B]), chain([A, B]), mixed([A, B])]).told(),
                         ("choice", (("mixed", (TA, TB)), ("chain", (TA, TB)))))
        first = chain([A, B])
        self.assertIs(choice([first, chain([A, B])]), first)

    def test_times(self):
        self.assertEqual(times(A, 0, 0).told(), EMPTY)
        self.assertEqual(times(chain([]), 3, 5).told(), EMPTY)
        self.assertEqual(times(chain([])).told(), EMPTY)
        self.assertEqual(times(chain([]), 1, 1).told(), EMPTY)
        self.assertEqual(times(chain([]), 0, 0).told(), EMPTY)
        self.assertIs(times(A, 1, 1), A)
        self.assertEqual(times(times(A, 1, 1), 1, 1).told(), TA)
        self.assertEqual(times(A, 1, 2).told(), ("times", TA, 1, 2))
        self.assertEqual(times(A, 1).told(), ("times", TA, 1, -1))
        self.assertEqual(times(times(A)).told(), ("times", ("times", TA, 0, -1), 0, -1))
        self.assertEqual(times(mixed([]), 2).told(), EMPTY)

    def test_all_counts(self):
        for low, high in itertools.product(range(-2, 13), [None] + list(range(-2, 13))):
            allowed = 0 <= low <= 9 and (high is None or low <= high <= 9)
            for part in (A, chain([]), chain([A, B]), times(A)):
                if not allowed:
                    self.assert_refused(NoPattern, {}, times, part, low, high)
                else:
                    told = plain.times(part.told(), low, -1 if high is None else high)
                    self.assertEqual(times(part, low, high).told(), told)

    def test_far_counts(self):
        for low, high in ((10 ** 4000, None), (-10 ** 4000, None), (0, 10 ** 4000), (0, -10 ** 4000), (10, 10)):
            for part in (A, chain([])):
                self.assert_refused(NoPattern, {}, times, part, low, high)

    def test_mixed(self):
        self.assertEqual(mixed([mixed([A, B]), C]).told(), ("mixed", (TA, TB, TC)))
        self.assertEqual(mixed([C, mixed([B, A])]).told(), ("mixed", (TC, TB, TA)))
        self.assertEqual(mixed([A, chain([]), A]).told(), ("mixed", (TA, TA)))
        self.assertEqual(mixed([]).told(), EMPTY)
        self.assertEqual(mixed([chain([]), chain([])]).told(), EMPTY)
        self.assertEqual(mixed([chain([]), A]).told(), TA)
        self.assertIs(mixed([B]), B)
        self.assertEqual(mixed([mixed([A]), mixed([])]).told(), TA)
        self.assertEqual(mixed([chain([A, B]), choice([A, B])]).told(),
                         ("mixed", (("chain", (TA, TB)), ("choice", (TA, TB)))))

    def test_lists_of_parts_stay_the_callers(self):
        for make in (chain, choice, mixed):
            parts = [A, make([B, C]), chain([])]
            before = list(parts)
            made = make(parts)
            told = made.told()
            self.assertEqual(parts, before)
            parts.clear()
            parts.append(C)
            self.assertEqual(made.told(), told)
            self.assertTrue(row_fits(made, [["a"]]) or make is not choice)
            self.assertEqual(made.speaks(), ["a", "b", "c"])

    def test_lists_told_are_the_askers(self):
        pattern = mixed([times(A), choice([B, C])])
        pattern.speaks().append("z")
        pattern.left(["a", "b"]).clear()
        self.assertEqual(pattern.speaks(), ["a", "b", "c"])
        self.assertEqual(len(pattern.left(["a", "b"])), 2)
        single = one("a")
        single.speaks().clear()
        self.assertEqual(single.speaks(), ["a"])

    def test_pattern_of_what_is_told(self):
        for told in samples(2000, 24, 8):
            pattern = pattern_of(told)
            self.assertEqual(pattern.told(), told)
            self.assertEqual(pattern_of(pattern.told()).told(), told)
        self.assertEqual(pattern_of(EMPTY).told(), EMPTY)
        self.assertEqual(pattern_of(("times", TA, 0, -1)).told(), ("times", TA, 0, -1))
        self.assertEqual(pattern_of(("times", TA, 2, 9)).told(), ("times", TA, 2, 9))

    def test_pattern_of_what_is_left(self):
        pattern = mixed([times(mixed([A, times(B, 2, 4)]), 3), times(choice([A, chain([B, C])]), 0, 2)])
        found = [pattern]
        for _ in range(4):
            found = [rest for pattern in found for rest in pattern.left(["a", "b"])][:40]
            for rest in found:
                self.assertEqual(pattern_of(rest.told()).told(), rest.told())


class Leaving(unittest.TestCase):
    def assert_left(self, pattern, forms, *told):
        self.assertEqual(told_all(pattern.left(list(forms))), sorted(told))

    def test_bare(self):
        bare = [chain([]), times(A), times(A, 0, 3), chain([times(A), times(B)]), choice([A, times(B)]),
                choice([chain([]), A]), mixed([times(A), times(B, 0, 1)]), times(times(A), 3, 5)]
        other = [A, chain([A, B]), chain([times(A), B]), chain([B, times(A)]), choice([A, B]), times(A, 1),
                 times(A, 1, 3), mixed([times(A), B]), mixed([B, times(A)]), times(chain([A, times(B)]), 2)]
        for pattern in bare:
            self.assertIs(pattern.bare(), True, pattern.told())
        for pattern in other:
            self.assertIs(pattern.bare(), False, pattern.told())

    def test_one(self):
        self.assert_left(A, ["a"], EMPTY)
        self.assert_left(A, ["a", "a", "b"], EMPTY)
        self.assert_left(A, ["b"])
        self.assert_left(A, [])

    def test_chain(self):
        self.assert_left(chain([]), ["a"])
        self.assert_left(chain([A, B]), ["a"], TB)
        self.assert_left(chain([A, B]), ["b"])
        self.assert_left(chain([A, B, C]), ["a"], ("chain", (TB, TC)))
        many = ("times", TA, 0, -1)
        self.assert_left(chain([times(A), B, C]), ["a", "b"], ("chain", (many, TB, TC)), TC)
        self.assert_left(chain([times(A), times(A)]), ["a"], ("chain", (many, many)), many)
        # The same twice, by the first and by the second part.
        self.assert_left(chain([times(A, 0, 1), times(A)]), ["a"], many)
        self.assert_left(chain([times(A, 1), times(B)]), ["b"])

    def test_choice(self):
        self.assert_left(choice([A, B]), ["a", "b"], EMPTY)
        self.assert_left(choice([chain([A, B]), chain([A, C]), A]), ["a"], TB, TC, EMPTY)
        self.assert_left(choice([chain([A, B]), C]), ["b"])

    def test_times(self):
        self.assert_left(times(A), ["a"], ("times", TA, 0, -1))
        self.assert_left(times(A, 1), ["a"], ("times", TA, 0, -1))
        self.assert_left(times(A, 3), ["a"], ("times", TA, 2, -1))
        self.assert_left(times(A, 0, 1), ["a"], EMPTY)
        self.assert_left(times(A, 0, 9), ["a"], ("times", TA, 0, 8))
        self.assert_left(times(A, 2, 2), ["a"], TA)
        self.assert_left(times(A, 2, 3), ["a"], ("times", TA, 1, 2))
        self.assert_left(times(A, 1, 2), ["a"], ("times", TA, 0, 1))
        self.assert_left(times(A, 9, 9), ["a"], ("times", TA, 8, 8))
        self.assert_left(times(A, 2, 3), ["b"])
        self.assert_left(times(chain([A, B]), 0, 2), ["a"], ("chain", (TB, ("times", ("chain", (TA, TB)), 0, 1))))
        self.assert_left(times(chain([A, B]), 2, 2), ["a"], ("chain", (TB, TA, TB)))

    def test_mixed(self):
        self.assert_left(mixed([A, B]), ["a", "b"], TA, TB)
        self.assert_left(mixed([A, A]), ["a"], TA)
        self.assert_left(mixed([A, B, C]), ["b"], ("mixed", (TA, TC)))
        self.assert_left(mixed([chain([A, B]), C]), ["a"], ("mixed", (TB, TC)))
        self.assert_left(mixed([C, times(mixed([A, B, A]), 0, 1)]), ["a"], ("mixed", (TC, TB, TA)), ("mixed", (TC, TA, TB)))
        self.assert_left(mixed([A, B]), ["c"])

    def test_forms_of_a_child(self):
        pattern = mixed([times(A), choice([B, chain([A, C])])])
        told = told_all(pattern.left(["a", "b"]))
        for forms in (["b", "a"], ["a", "a", "b", "a", "b"], ["z", "a", "y", "b", "z"]):
            self.assertEqual(told_all(pattern.left(forms)), told)
        for pattern in (A, chain([A, B]), choice([A, B]), times(A), mixed([A, B]), chain([])):
            self.assertEqual(pattern.left([]), [])
            self.assertEqual(pattern.left(["z", "zz"]), [])

    def test_forms_stay(self):
        forms = ["b", "a", "b"]
        mixed([times(A), choice([B, chain([A, C])])]).left(forms)
        self.assertEqual(forms, ["b", "a", "b"])

    def test_left_as_the_point_tells(self):
        for told in samples(1500):
            pattern = pattern_of(told)
            self.assertIs(pattern.bare(), plain.bare(told))
            for forms in ((), ("a",), ("b",), ("a", "b"), ("c",)):
                found = pattern.left(list(forms))
                self.assertEqual(len({rest.told() for rest in found}), len(found))
                self.assertEqual({rest.told() for rest in found}, set(plain.left(told, forms)))
                for rest in found:
                    self.assertIsInstance(rest, patterns.Pattern)
                    self.assertIs(rest.bare(), plain.bare(rest.told()))


if __name__ == "__main__":
    unittest.main()
