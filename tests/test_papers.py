import random
import unittest

import plain
from graftform.booktexts import read_book
from graftform.docs import size_of
from graftform.doctexts import read_doc
from graftform.errors import NoForm, TooMany
from graftform.machines import machine_of, state_of
from graftform.papers import each_is
from graftform.prices import grown
from helping import RefusalCase, counter, small_docs


class Papers(RefusalCase):
    def assert_told(self, one, form, other, goal):
        """What is told, held against the point's words; whether it is so."""
        names, firsts = plain.pair_starts(one, other)
        known = plain.least_sizes(firsts, plain.pair_step(one, other))
        told = each_is(one, form, other, goal)
        self.assertIs(told.__class__, tuple)
        makings, paper = told
        self.assertIs(paper.__class__, list)
        self.assertEqual(paper, sorted((p, q, size) for (p, q), size in known.items()))
        self.assertEqual({entry.__class__ for entry in paper}, {tuple})
        astray = [size for (p, q), size in known.items()
                  if plain.in_form(one, p, form) and not plain.in_form(other, q, goal)]
        if not astray:
            self.assertIsNone(makings)
            return True
        self.assertIs(makings.__class__, tuple)
        self.assertEqual(plain.made_size(makings), min(astray))
        states = list(zip(plain.made_states(one, makings), plain.made_states(other, makings), strict=True))
        self.assertEqual(len(states), len(set(states)))
        self.assertTrue(plain.in_form(one, states[-1][0], form))
        self.assertFalse(plain.in_form(other, states[-1][1], goal))
        return False

    def test_written_out(self):
        one = machine_of(read_book("f = a(g*); g = b"))
        other = machine_of(read_book("h = a(k* m?); k = b; m = b"))
        more = machine_of(read_book("h = a(k k?); k = b"))
        self.assertIsNone(each_is(one, "f", other, "h")[0])
        self.assertIsNone(each_is(one, "g", other, "m")[0])
        self.assertEqual(grown(each_is(one, "f", more, "h")[0]), read_doc("a"))
        self.assertEqual(grown(each_is(other, "k", one, "f")[0]), read_doc("b"))
        self.assertIsNone(each_is(more, "h", one, "f")[0])
        few = machine_of(read_book("h = a(k{0,2}); k = b"))
        self.assertEqual(grown(each_is(one, "f", few, "h")[0]), read_doc("a(b b b)"))

    def test_the_paper(self):
        one = machine_of(read_book("f = a"))
        other = machine_of(read_book("g = b(g*)"))
        self.assertEqual(each_is(one, "f", other, "g"), (
            (("a",),), [(0, 1, 1), (1, 0, 1), (1, 1, 1)]))
        self.assertEqual(each_is(counter(2), "f", counter(4, at=2), "f"), (
            (("a",),), [(0, 0, 1), (0, 2, 3), (1, 1, 2), (1, 3, 4)]))
        makings, paper = each_is(counter(2), "f", counter(4), "f")
        self.assertEqual(size_of(grown(makings)), 3)

    def test_any_machines(self):
        chance = random.Random(61)
        told = []
        for _ in range(200):
            one = plain.sample_machine(chance, chance.randint(1, 5), "fg", "ab"[chance.randint(0, 2):])
            other = plain.sample_machine(chance, chance.randint(1, 5), "fgh", "abx"[chance.randint(0, 3):])
            told.append(self.assert_told(one, chance.choice("fg"), other, chance.choice("fgh")))
        self.assertGreater(told.count(True), 10)
        self.assertGreater(told.count(False), 50)

    def test_books(self):
        chance = random.Random(62)
        told = []
        docs = [doc for size in range(1, 5) for doc in small_docs(size, ("a", "b"))]
        for _ in range(150):
            rules = plain.sample_rules(chance, 3, 4, 3)
            machine = plain.book_machine(rules, 14)
            if machine is None:
                continue
            told.append(self.assert_told(machine, "f", machine, "g"))
            if told[-1]:
                for doc in docs:
                    self.assertLessEqual("f" in plain.doc_forms(rules, doc), "g" in plain.doc_forms(rules, doc))
            self.assertTrue(self.assert_told(machine, "h", machine, "h"))
        self.assertGreater(told.count(True), 10)
        self.assertGreater(told.count(False), 10)

    def test_unlike_names(self):
        one = (("f",), ("a", "c"), (0, 1, 2), ((2,) * 3,) * 3, (1, 1, 0))
        other = (("f",), ("b", "c"), (0, 1, 2), ((2,) * 3,) * 3, (1, 0, 0))
        self.assertEqual(each_is(one, "f", other, "f")[1], [(0, 2, 1), (1, 1, 1), (2, 0, 1), (2, 2, 1)])
        self.assertIn(each_is(one, "f", other, "f")[0], ((("a",),), (("c",),)))
        self.assertEqual(each_is(other, "f", one, "f")[0], (("b",),))
        nowhere = ((("f",), (), (0,), ((0,),), (1,)))
        makings, _ = each_is(nowhere, "f", (("g",), ("a", "b"), (0, 0, 1), ((0, 0), (0, 0)), (1, 0)), "g")
        self.assertNotIn(makings, ((("a",),), (("b",),)))
        self.assertEqual(len(makings), 1)

    def test_great_documents(self):
        many = 64
        last = many - 1
        steps = tuple(tuple(p + 1 if p == q < last else last for q in range(many)) for p in range(many))
        machine = (("f", "none"), ("a",), (0, last), steps, (0,) * 62 + (1, 0))
        self.assertFalse(self.assert_told(machine, "f", machine, "none"))
        self.assertEqual(plain.made_size(each_is(machine, "f", machine, "none")[0]), 2 ** 62)

    def test_refused_forms(self):
        one, other = counter(9), counter(8, "g")
        self.assert_refused(NoForm, {"form": "x"}, each_is, one, "x", other, "y")
        self.assert_refused(NoForm, {"form": "y"}, each_is, one, "f", other, "y")
        self.assert_refused(NoForm, {"form": "g"}, each_is, one, "g", other, "g")
        self.assert_refused(NoForm, {"form": "f"}, each_is, one, "f", other, "f")
        self.assert_refused(NoForm, {"form": "g"}, each_is, counter(3), "g", counter(3), "x")

    def test_64_pairs_and_more(self):
        self.assert_refused(TooMany, {}, each_is, counter(9), "f", counter(8, "g"), "g")
        self.assert_refused(TooMany, {}, each_is, counter(5), "f", counter(13), "f")
        self.assertEqual(len(each_is(counter(64), "f", counter(32), "f")[1]), 64)
        self.assertEqual(len(each_is(counter(7), "f", counter(9), "f")[1]), 63)
        self.assertIsNone(each_is(counter(64), "f", counter(64), "f")[0])
        # Pairs to which no document comes are not counted.
        self.assertEqual(len(each_is(counter(64), "f", counter(64), "f")[1]), 64)

    def test_twenty_forms_and_names(self):
        chance = random.Random(63)
        letters = "abcdefghijklmnopqrst"
        one = plain.sample_machine(chance, 7, letters, letters)
        other = plain.sample_machine(chance, 7, letters, letters[::-1])
        for form in "at":
            self.assert_told(one, form, other, "t")

    def test_told_lists_are_new(self):
        one, other = counter(3), counter(2)
        first = each_is(one, "f", other, "f")
        first[1].clear()
        self.assertEqual(len(each_is(one, "f", other, "f")[1]), 6)
        self.assertEqual((one, other), (counter(3), counter(2)))
        self.assertEqual(state_of(one, ("a", ())), 0)


if __name__ == "__main__":
    unittest.main()
