"""Points 1 to 3: the promise over the whole, for books, turners and documents made by chance."""

import random
import unittest

import plain
import plainturns
from graftform.back import back_states, comes, drawn_back, turns
from graftform.books import book_of
from graftform.booktexts import read_book
from graftform.docs import size_of
from graftform.errors import TooMany
from graftform.kept import Kept
from graftform.machines import forms_of, machine_of, marked, state_of
from graftform.merged import fewest
from graftform.papers import each_is
from graftform.patterns import pattern_of
from graftform.prices import grown, made_size
from graftform.readings import plain_forms, reading
from graftform.turners import chained, turned, turned_size
from graftform.turntexts import read_turner, show_turner
from helping import small_docs

DOCS = [doc for size in range(1, 6) for doc in small_docs(size, ("a", "b"))]
OTHERS = [doc for size in range(1, 4) for doc in small_docs(size, ("a", "x"))]


def book_made(rules):
    return book_of([(form, name, pattern_of(told)) for form, name, told in rules])


def made_by_chance(seed, many, rules=2):
    """Pairs of rules as they are told, and the machines of their books."""
    chance = random.Random(seed)
    found = 0
    while found < many:
        told = [plain.sample_rules(chance, rules, 3, 3) for _ in range(2)]
        if None not in [plain.book_machine(each, 12) for each in told]:
            found += 1
            yield chance, told, [machine_of(book_made(each)) for each in told]


class Promise(unittest.TestCase):
    def test_the_machines_word_is_that_of_the_plain_reading(self):
        for chance, (rules, _), (machine, _) in made_by_chance(141, 60, 3):
            book = book_made(rules)
            small = fewest(machine)
            for doc in chance.sample(DOCS, 15) + chance.sample(OTHERS, 5):
                expected = [(place, list(plain.doc_forms(rules, here))) for place, here in plain.all_places(doc)]
                self.assertEqual(marked(machine, doc), expected)
                self.assertEqual(marked(small, doc), expected)
                self.assertEqual(Kept(machine, doc).all_forms(), expected)
                self.assertEqual(plain_forms(book, doc), expected[0][1])
                for form, _, _ in rules:
                    told = reading(book, form, doc)
                    self.assertEqual(told is not None, form in expected[0][1])
                    self.assertTrue(told is None or plain.is_reading(rules, form, doc, told))

    def test_what_is_told_of_turners(self):
        yes = no = 0
        for chance, (rules, others), (one, other) in made_by_chance(142, 250):
            turner = plainturns.sample_turner(chance, "ab", most=2, depth=2)
            form, goal = chance.choice("fg"), chance.choice("fg")
            try:
                makings, paper = turns(turner, one, form, other, goal)
            except TooMany:
                continue

            def astray(doc):
                row = plainturns.turned(turner, doc)
                is_goal = len(row) == 1 and goal in plain.doc_forms(others, row[0])
                return form in plain.doc_forms(rules, doc) and not is_goal

            sizes = [size_of(doc) for doc in DOCS if astray(doc)]
            if makings is None:
                self.assertEqual(sizes, [])
                yes += any(form in plain.doc_forms(rules, doc) for doc in DOCS)
            else:
                doc = grown(makings)
                self.assertTrue(astray(doc))
                self.assertEqual(size_of(doc), min(sizes + [made_size(makings)]))
                no += 1
            self.assert_paper(chance, one, drawn_back(turner, other), paper)
        self.assertGreater(yes, 10)
        self.assertGreater(no, 50)

    def assert_paper(self, chance, one, other, paper):
        """All that can come is in the paper: the leaves, and what comes of two that are in it."""
        pairs = {(p, q) for p, q, _ in paper}
        self.assertEqual(paper, sorted(paper))
        self.assertGreaterEqual(pairs, set(plain.pair_starts(one, other)[1]))
        step = plain.pair_step(one, other)
        self.assertGreaterEqual(pairs, {step(pair, child) for pair in pairs for child in pairs})
        least = {(p, q): size for p, q, size in paper}
        for doc in chance.sample(DOCS, 15):
            self.assertLessEqual(least[state_of(one, doc), state_of(other, doc)], size_of(doc))

    def test_the_machine_drawn_back_tells_of_turned_documents(self):
        drawn = 0
        for chance, _, (machine, _) in made_by_chance(143, 120):
            turner = plainturns.sample_turner(chance, "abx", most=2, depth=2)
            try:
                told = drawn_back(turner, machine)
            except TooMany:
                continue
            drawn += 1
            for doc in chance.sample(DOCS, 15) + chance.sample(OTHERS, 5):
                row = turned(turner, doc)
                forms = forms_of(machine, state_of(machine, row[0])) if len(row) == 1 else []
                self.assertEqual(forms_of(told, state_of(told, doc)), forms)
                self.assertEqual(row, plainturns.turned(turner, doc))
        self.assertGreater(drawn, 40)

    def test_two_turners_are_drawn_back_one_by_one_or_chained(self):
        held = 0
        for chance, _, (machine, _) in made_by_chance(144, 80):
            first, second = (plainturns.sample_turner(chance, "ab", most=2, depth=2) for _ in range(2))
            try:
                both = drawn_back(chained(first, second), machine)
                machine = drawn_back(second, machine)
            except TooMany:
                continue
            for doc in chance.sample(DOCS, 10):
                made = turned(first, doc)
                # Where the first makes several documents, the second may still make one of them all.
                if len(made) == 1:
                    self.assertEqual(forms_of(both, state_of(both, doc)), forms_of(machine, state_of(machine, made[0])))
                    held += 1
        self.assertGreater(held, 100)

    def test_each_is_and_turns_without_rules_tell_the_same(self):
        for _, _, (one, other) in made_by_chance(145, 60):
            for form in "fg":
                for goal in "fg":
                    try:
                        turning = turns((), one, form, other, goal)[0]
                    except TooMany:
                        continue
                    plainly = each_is(one, form, other, goal)[0]
                    self.assertEqual(turning is None, plainly is None)
                    if plainly:
                        self.assertEqual(made_size(turning), made_size(plainly))


class Stays(unittest.TestCase):
    """Point 2: what is handed in stays, and what is told is the asker's own."""

    def test_the_same_again(self):
        machine = machine_of(read_book("f = a(g*); g = b(f | g)"))
        turner = read_turner("a -> b(* a) *; c ->")
        doc = ("a", (("b", ()), ("c", ())))
        calls = [
            lambda: turned(turner, doc), lambda: turned_size(turner, doc), lambda: chained(turner, turner),
            lambda: show_turner(turner), lambda: back_states(turner, machine), lambda: drawn_back(turner, machine),
            lambda: turns(turner, machine, "f", machine, "g"), lambda: comes(turner, machine, "f", machine),
            lambda: fewest(machine), lambda: Kept(machine, doc).all_forms(), lambda: Kept(machine, doc).forms_at(())]
        first = [repr(call()) for call in calls]
        for call in calls:
            told = call()
            if isinstance(told, list):
                told.clear()
        self.assertEqual([repr(call()) for call in calls], first)


if __name__ == "__main__":
    unittest.main()
