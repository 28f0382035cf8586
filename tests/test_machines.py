import random
import unittest

import plain
from graftform.booktexts import read_book
from graftform.books import book_of
from graftform.doctexts import read_doc
from graftform.errors import TooMany
from graftform.machines import forms_of, machine_of, marked, state_of
from graftform.patterns import pattern_of
from graftform.readings import plain_forms
from helping import RefusalCase, fan, small_docs, tower

# A document's state is the number of its places named a, up to 2; state 3 has no document.
COUNTING = (
    ("many", "none"), ("a",), (1, 0),
    ((0, 1, 2, 3), (1, 2, 2, 3), (2, 2, 2, 3), (3, 3, 3, 0)), (2, 0, 1, 3),
)


class Told(unittest.TestCase):
    """What machines of any tables tell."""

    def test_states(self):
        for text, state in {"a": 1, "b": 0, "b(c)": 0, "b(a)": 1, "a(b)": 1, "a(a)": 2, "b(a b(a))": 2,
                            "a(a a)": 2, "zz(b(b(a)))": 1}.items():
            self.assertEqual(state_of(COUNTING, read_doc(text)), state, text)

    def test_forms(self):
        self.assertEqual([forms_of(COUNTING, state) for state in range(4)], [["none"], [], ["many"], ["many", "none"]])

    def test_marked(self):
        self.assertEqual(marked(COUNTING, read_doc("b(b a(b a) c(a))")), [
            ((), ["many"]), ((0,), ["none"]), ((1,), ["many"]), ((1, 0), ["none"]), ((1, 1), []), ((2,), []),
            ((2, 0), [])])

    def test_without_forms_and_names(self):
        machine = ((), (), (1,), ((0, 1), (1, 0)), (0, 0))
        self.assertEqual(state_of(machine, ("a", ())), 1)
        self.assertEqual(state_of(machine, ("b", (("a", ()),))), 0)
        self.assertEqual(forms_of(machine, 0), [])
        self.assertEqual(marked(machine, ("b", (("a", ()),))), [((), []), ((0,), [])])

    def test_one_state(self):
        machine = (("f",), ("b",), (0, 0), ((0,),), (1,))
        self.assertEqual(marked(machine, read_doc("a(b)")), [((), ["f"]), ((0,), ["f"])])

    def test_any_tables(self):
        chance = random.Random(31)
        docs = [doc for size in range(1, 5) for doc in small_docs(size, ("a", "b", "zz"))]
        for _ in range(100):
            forms = "fghij"[:chance.randint(0, 5)]
            machine = plain.sample_machine(chance, chance.randint(1, 6), forms, "abcd"[chance.randint(0, 3):])
            for doc in chance.sample(docs, 20):
                self.assertEqual(state_of(machine, doc), plain.state(machine, doc))
                expected = [(place, [form for form in forms if plain.has_form(machine, here, form)])
                            for place, here in plain.all_places(doc)]
                self.assertEqual(marked(machine, doc), expected)
                self.assertEqual(forms_of(machine, state_of(machine, doc)), expected[0][1])

    def test_twenty_forms_and_64_states(self):
        chance = random.Random(32)
        forms = tuple("abcdefghijklmnopqrst")
        machine = plain.sample_machine(chance, 64, forms, forms)
        for state in range(64):
            self.assertEqual(forms_of(machine, state),
                             [form for k, form in enumerate(forms) if machine[4][state] // 2 ** k % 2])
        for doc in (tower(64), fan(299), tower(64, "t"), ("x", tuple(tower(63, name) for name in "abcd"))):
            self.assertEqual(state_of(machine, doc), plain.state(machine, doc))
            self.assertEqual(len(marked(machine, doc)), len(plain.all_places(doc)))

    def test_kinds_of_what_is_told(self):
        self.assertIs(state_of(COUNTING, ("a", ())).__class__, int)
        told = marked(COUNTING, read_doc("b(b)"))
        self.assertIs(told.__class__, list)
        for pair in told:
            self.assertIs(pair.__class__, tuple)
            self.assertIs(pair[1].__class__, list)

    def test_told_lists_are_new(self):
        doc = read_doc("b(b b)")
        told = marked(COUNTING, doc)
        told[0][1].append("x")
        self.assertEqual(told[1:], [((0,), ["none"]), ((1,), ["none"])])
        told.clear()
        forms_of(COUNTING, 0).clear()
        self.assertEqual(marked(COUNTING, doc), [((), ["none"]), ((0,), ["none"]), ((1,), ["none"])])
        self.assertEqual(forms_of(COUNTING, 0), ["none"])


class BookMachines(RefusalCase):
    def test_written_out(self):
        # The states: a without children, every other one, a with children f, those with such a child.
        self.assertEqual(machine_of(read_book("f = a")), (
            ("f",), ("a",), (0, 1), ((1, 1), (1, 1)), (1, 0)))
        self.assertEqual(machine_of(read_book("f = b(f*); g = a")), (
            ("f", "g"), ("a", "b"), (0, 1, 2), ((2, 2, 2), (2, 1, 2), (2, 2, 2)), (2, 1, 0)))
        self.assertEqual(machine_of(read_book("f = b(g g?); g = a")), (
            ("f", "g"), ("a", "b"), (0, 1, 2),
            ((2, 2, 2, 2, 2), (3, 2, 2, 2, 2), (2, 2, 2, 2, 2), (4, 2, 2, 2, 2), (2, 2, 2, 2, 2)), (2, 0, 0, 1, 1)))

    def test_in_the_order_in_which_they_come(self):
        # From state 1 (b), behind a child of state 0 comes 3 (b with one a), ahead of 1 behind 1.
        machine = machine_of(read_book("f = b(g h | h); g = a; h = b"))
        self.assertEqual(machine, plain.book_machine((
            ("f", "b", plain.read("g h | h")), ("g", "a", plain.EMPTY), ("h", "b", plain.EMPTY))))
        self.assertEqual(machine[2], (0, 1, 2))
        self.assertEqual(machine[3][1], (3, 4, 2, 2, 2))
        self.assertEqual(machine[3][3], (2, 4, 2, 2, 2))
        self.assertEqual(machine[4], (2, 4, 0, 0, 1))

    def test_names_are_sorted_and_told_once(self):
        machine = machine_of(read_book("f = zz; g = b; h = zz(g); i = ab; j = b(f)"))
        self.assertEqual(machine[0], ("f", "g", "h", "i", "j"))
        self.assertEqual(machine[1], ("ab", "b", "zz"))
        self.assertEqual(machine[2], (0, 1, 2, 3))

    def assert_tables(self, machine):
        self.assertEqual([part.__class__ for part in machine], [tuple] * 5)
        self.assertEqual({row.__class__ for row in machine[3]}, {tuple})
        for number in machine[2] + machine[4] + sum(machine[3], ()):
            self.assertIs(number.__class__, int)

    def test_any_books(self):
        chance = random.Random(33)
        docs = [doc for size in range(1, 6) for doc in small_docs(size)]
        made, refused, states = 0, 0, 0
        for _ in range(250):
            rules = plain.sample_rules(chance, chance.randint(1, 4), 6, 4)
            book = book_of([(form, name, pattern_of(told)) for form, name, told in rules])
            expected = plain.book_machine(rules, 64)
            if expected is None:
                self.assert_refused(TooMany, {}, machine_of, book)
                refused += 1
                continue
            machine = machine_of(book)
            self.assertEqual(machine, expected)
            self.assert_tables(machine)
            made += 1
            states = max(states, len(machine[4]))
            for doc in chance.sample(docs, 30):
                for (place, forms), (other, here) in zip(marked(machine, doc), plain.all_places(doc), strict=True):
                    self.assertEqual(place, other)
                    self.assertEqual(forms, plain_forms(book, here))
                    self.assertEqual(forms, list(plain.doc_forms(rules, here)))
        self.assertGreater(made, 100)
        self.assertGreater(refused, 3)
        self.assertGreater(states, 30)

    def test_large_documents(self):
        book = read_book("f = a(f* g* h*); g = a(g | h |); h = b((f & g)? | f)")
        machine = machine_of(book)
        for doc in (tower(64), fan(299), tower(64, "b"), ("b", (tower(60), tower(60, "b"))),
                    ("a", (("b", (("a", ()), ("a", ()))),) * 60)):
            for (_, forms), (_, here) in zip(marked(machine, doc), plain.all_places(doc), strict=True):
                self.assertEqual(forms, plain_forms(book, here))

    def test_64_states_and_more(self):
        # A chain of so many children, the same in b, and every other document: three states more.
        machine = machine_of(read_book("y = m; x = n((y{9}){6} y{7})"))
        self.assertEqual(len(machine[4]), 64)
        self.assertEqual(forms_of(machine, state_of(machine, ("n", (("m", ()),) * 61))), ["x"])
        self.assert_refused(TooMany, {}, machine_of, read_book("y = m; x = n((y{9}){6} y{8})"))
        self.assert_refused(TooMany, {}, machine_of, read_book("y = m; x = n(((y{9}){9}){9})"))

    def test_many_patterns_at_once(self):
        book = read_book("top = n(f{0,9} & g{0,9} & h{0,9} & i{0,9}); f = a; g = a; h = a; i = a")
        machine = machine_of(read_book("top = n(f{0,9} & g{0,9} & h{0,9}); f = a; g = a; h = a"))
        for many in (0, 5, 27, 28):
            doc = ("n", (("a", ()),) * many)
            self.assertEqual(forms_of(machine, state_of(machine, doc)), ["top"] * (many <= 27))
            self.assertEqual(plain_forms(book, doc), ["top"])
        self.assertEqual(plain_forms(book, ("n", (("a", ()),) * 37)), [])

    def test_the_book_stays(self):
        book = read_book("f = a(g*); g = b(f?)")
        told = [(form, name, pattern.told()) for form, name, pattern in book]
        machine_of(book)
        self.assertEqual([(form, name, pattern.told()) for form, name, pattern in book], told)


if __name__ == "__main__":
    unittest.main()
