import random
import unittest

import plain
from graftform.booktexts import read_book
from graftform.errors import NoForm, TooMany
from graftform.machines import forms_of, machine_of, state_of
from graftform.together import both, either, holding, paired, without
from helping import RefusalCase, counter, small_docs

# State 3 has no document; f is told of 0 and 2, g of 2 and 3.
ODD = (("f", "g"), ("a",), (0, 1), ((0, 1, 2, 3), (1, 2, 2, 3), (2, 2, 0, 3), (3, 3, 3, 0)), (1, 0, 3, 2))
DOCS = [doc for size in range(1, 5) for doc in small_docs(size, ("a", "b", "x"))]


class Pairs(RefusalCase):
    def test_written_out(self):
        one = machine_of(read_book("f = a"))
        other = machine_of(read_book("g = b(g*)"))
        self.assertEqual(one, (("f",), ("a",), (0, 1), ((1, 1), (1, 1)), (1, 0)))
        self.assertEqual(other, (("g",), ("b",), (0, 1), ((0, 1), (1, 1)), (1, 0)))
        self.assertEqual(paired(one, other), (
            ("f", "g"), ("a", "b"), (0, 1, 2),
            # (0, 1), (1, 0), (1, 1)
            ((2, 2, 2), (2, 1, 2), (2, 2, 2)), (1, 2, 0)))

    def test_any_machines(self):
        chance = random.Random(41)
        for _ in range(60):
            one = plain.sample_machine(chance, chance.randint(1, 5), "fgh"[:chance.randint(0, 3)], "ab"[chance.randint(0, 2):])
            other = plain.sample_machine(chance, chance.randint(1, 5), "ij"[:chance.randint(0, 2)], "abx"[chance.randint(0, 3):])
            machine = paired(one, other)
            names, firsts = plain.pair_starts(one, other)
            forms = one[0] + other[0]

            def has(pair, form):
                return plain.in_form(one, pair[0], form) if form in one[0] else plain.in_form(other, pair[1], form)

            self.assertEqual(machine, plain.table(forms, names, firsts, plain.pair_step(one, other), has))
            self.assertEqual([part.__class__ for part in machine], [tuple] * 5)
            for doc in chance.sample(DOCS, 20):
                self.assertEqual(forms_of(machine, state_of(machine, doc)),
                                 forms_of(one, state_of(one, doc)) + forms_of(other, state_of(other, doc)))

    def test_twenty_forms_each(self):
        chance = random.Random(42)
        letters = "abcdefghijklmnopqrst"
        one = plain.sample_machine(chance, 4, tuple("f" + letter for letter in letters), letters)
        other = plain.sample_machine(chance, 4, tuple("g" + letter for letter in letters), letters[::-1])
        machine = paired(one, other)
        self.assertEqual(machine[0], one[0] + other[0])
        for doc in DOCS[:50]:
            self.assertEqual(forms_of(machine, state_of(machine, doc)),
                             forms_of(one, state_of(one, doc)) + forms_of(other, state_of(other, doc)))

    def test_a_form_of_both(self):
        one = (("f", "g", "h"), (), (0,), ((0,),), (7,))
        for forms, form in (("h", "h"), ("xgf", "g"), ("fx", "f"), ("hgf", "h")):
            other = (tuple(forms), (), (0,), ((0,),), (1,))
            self.assert_refused(NoForm, {"form": form}, paired, one, other)
            self.assert_refused(NoForm, {"form": form}, paired, counter(9, "fgh"), counter(8, forms))

    def test_64_pairs_and_more(self):
        self.assertEqual(len(paired(counter(7, "f"), counter(9, "g"))[4]), 63)
        self.assertEqual(len(paired(counter(64, "f"), counter(16, "g"))[4]), 64)
        self.assertEqual(len(paired(counter(64, "f"), counter(64, "g"))[4]), 64)
        self.assert_refused(TooMany, {}, paired, counter(5, "f"), counter(13, "g"))
        self.assert_refused(TooMany, {}, paired, counter(9, "f"), counter(8, "g"))
        self.assert_refused(TooMany, {}, paired, counter(64, "f"), counter(63, "g"))


class MoreForms(RefusalCase):
    def test_written_out(self):
        self.assertEqual(both(ODD, "n", "f", "g"), (("f", "g", "n"),) + ODD[1:4] + ((1, 0, 7, 2),))
        self.assertEqual(either(ODD, "n", "f", "g"), (("f", "g", "n"),) + ODD[1:4] + ((5, 0, 7, 6),))
        self.assertEqual(without(ODD, "n", "f"), (("f", "g", "n"),) + ODD[1:4] + ((1, 4, 3, 6),))
        self.assertEqual(both(ODD, "n", "g", "g"), (("f", "g", "n"),) + ODD[1:4] + ((1, 0, 7, 6),))
        self.assertEqual(either(ODD, "n", "f", "f"), (("f", "g", "n"),) + ODD[1:4] + ((5, 0, 7, 2),))

    def test_any_machines(self):
        chance = random.Random(43)
        for _ in range(100):
            forms = "fghij"[:chance.randint(1, 5)]
            machine = plain.sample_machine(chance, chance.randint(1, 6), forms, "ab"[chance.randint(0, 2):])
            form, other = chance.choice(forms), chance.choice(forms)
            truths = [(plain.in_form(machine, state, form), plain.in_form(machine, state, other))
                      for state in range(len(machine[4]))]
            for told, expected in (
                    (both(machine, "new", form, other), [has and also for has, also in truths]),
                    (either(machine, "new", form, other), [has or also for has, also in truths]),
                    (without(machine, "new", form), [not has for has, _ in truths])):
                self.assertEqual(told[0], tuple(forms) + ("new",))
                self.assertEqual(told[1:4], machine[1:4])
                self.assertEqual(told[4], tuple(mark + 2 ** len(forms) * truth for mark, truth in zip(machine[4], expected)))
                self.assertEqual({mark.__class__ for mark in told[4]}, {int})

    def test_refused_forms(self):
        for call in (both, either):
            self.assert_refused(NoForm, {"form": "x"}, call, ODD, "n", "x", "y")
            self.assert_refused(NoForm, {"form": "y"}, call, ODD, "n", "f", "y")
            self.assert_refused(NoForm, {"form": "x"}, call, ODD, "f", "x", "g")
            self.assert_refused(NoForm, {"form": "y"}, call, ODD, "f", "g", "y")
            self.assert_refused(NoForm, {"form": "f"}, call, ODD, "f", "g", "g")
            self.assert_refused(NoForm, {"form": "n"}, call, ODD, "n", "f", "n")
        for call in (without, holding):
            self.assert_refused(NoForm, {"form": "x"}, call, ODD, "n", "x")
            self.assert_refused(NoForm, {"form": "x"}, call, ODD, "f", "x")
            self.assert_refused(NoForm, {"form": "g"}, call, ODD, "g", "f")
            self.assert_refused(NoForm, {"form": "n"}, call, ODD, "n", "n")


class Holding(RefusalCase):
    def test_written_out(self):
        machine = machine_of(read_book("f = a"))
        self.assertEqual(holding(machine, "h", "f"), (
            # a without children; others without such; others with such below
            ("f", "h"), ("a",), (0, 1), ((2, 1, 2), (2, 1, 2), (2, 2, 2)), (3, 0, 2)))

    def test_any_machines(self):
        chance = random.Random(44)
        for _ in range(100):
            forms = "fgh"[:chance.randint(1, 3)]
            machine = plain.sample_machine(chance, chance.randint(1, 6), forms, "ab"[chance.randint(0, 2):])
            form = chance.choice(forms)

            def has(here, asked):
                if asked == "new":
                    return here[1] or plain.in_form(machine, here[0], form)
                return plain.in_form(machine, here[0], asked)

            step = plain.held_step(machine, lambda state: plain.in_form(machine, state, form))
            told = holding(machine, "new", form)
            firsts = [(start, False) for start in machine[2]]
            self.assertEqual(told, plain.table(tuple(forms) + ("new",), machine[1], firsts, step, has))
            for doc in chance.sample(DOCS, 20):
                here = forms_of(told, state_of(told, doc))
                held = any(plain.has_form(machine, below, form) for _, below in plain.all_places(doc))
                self.assertEqual(here, forms_of(machine, state_of(machine, doc)) + ["new"] * held)

    def test_64_states_and_more(self):
        # With leaves held, only those without children hold none below; with the last state's, all do both.
        self.assertEqual(len(holding(counter(63), "h", "f")[4]), 64)
        self.assert_refused(TooMany, {}, holding, counter(64), "h", "f")
        self.assertEqual(len(holding(counter(32, at=31), "h", "f")[4]), 64)
        self.assert_refused(TooMany, {}, holding, counter(33, at=32), "h", "f")
        self.assertEqual(len(holding(counter(64, at=-1), "h", "f")[4]), 64)
        self.assert_refused(NoForm, {"form": "x"}, holding, counter(64, "f"), "h", "x")
        self.assert_refused(NoForm, {"form": "f"}, holding, counter(64, "f"), "f", "f")

    def test_forms_of_forms(self):
        machine = machine_of(read_book("f = a(f*); g = b(f g | )"))
        machine = without(holding(either(machine, "any", "f", "g"), "held", "any"), "free", "held")
        machine = both(machine, "odd", "held", "free")
        for doc in DOCS:
            forms = forms_of(machine, state_of(machine, doc))
            self.assertNotIn("odd", forms)
            self.assertEqual("held" in forms, "free" not in forms)


if __name__ == "__main__":
    unittest.main()
