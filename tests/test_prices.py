import random
import unittest

import plain
from graftform.booktexts import read_book
from graftform.docs import height_of, is_document, size_of
from graftform.doctexts import read_doc
from graftform.errors import NoForm, TooLarge
from graftform.machines import machine_of, state_of
from graftform.prices import grown, least, made_size, makings_of, sizes, stands
from helping import RefusalCase, counter, small_docs

DOUBLES = (("a",),) + tuple((k, k) for k in range(63))


def doubling(many):
    """A machine of which state k has just the documents of k doublings, and the last state all others."""
    last = many - 1
    steps = tuple(tuple(p + 1 if p == q < last else last for q in range(many)) for p in range(many))
    return ("f", "other"), ("a",), (0, last), steps, (0,) * (many - 2) + (1, 2)


class Sizes(unittest.TestCase):
    def test_written_out(self):
        # Leaves, one child, two children, more; the last state has no document.
        machine = ((), (), (0,), ((1, 1, 1, 1, 4), (2,) * 5, (3,) * 5, (3,) * 5, (4,) * 5), (0,) * 5)
        self.assertEqual(sizes(machine), (1, 2, 3, 4, None))
        self.assertEqual(sizes(counter(5)), (1, 2, 3, 4, 5))
        self.assertEqual(sizes(machine_of(read_book("f = a(g g g); g = b(h h); h = c"))), (1, 1, 1, 1, 2, 3, 4, 7, 10))

    def test_any_tables(self):
        chance = random.Random(51)
        docs = [doc for size in range(1, 5) for doc in small_docs(size, ("a", "b", "x"))]
        absent, greatest = 0, 0
        for _ in range(300):
            machine = plain.sample_machine(chance, chance.randint(1, 12), "f", "ab"[chance.randint(0, 2):])
            expected = plain.machine_sizes(machine)
            told = sizes(machine)
            self.assertEqual(told, tuple(expected.get(state) for state in range(len(machine[4]))))
            self.assertIs(told.__class__, tuple)
            absent += told.count(None)
            greatest = max([greatest] + list(expected.values()))
            for doc in chance.sample(docs, 10):
                self.assertLessEqual(told[state_of(machine, doc)], size_of(doc))
        self.assertGreater(absent, 50)
        self.assertGreater(greatest, 5)

    def test_sparse_tables(self):
        chance = random.Random(52)
        greatest = 0
        for _ in range(300):
            many = chance.randint(3, 12)
            rows = [[many - 1] * many for _ in range(many)]
            for _ in range(many + 2):
                rows[chance.randrange(many)][chance.randrange(many)] = chance.randrange(many)
            machine = ((), ("a",), (chance.randrange(many), chance.randrange(many)), tuple(map(tuple, rows)), (0,) * many)
            expected = plain.machine_sizes(machine)
            self.assertEqual(sizes(machine), tuple(expected.get(state) for state in range(many)))
            greatest = max([greatest] + list(expected.values()))
        self.assertGreater(greatest, 10)

    def test_great_sizes(self):
        for many in (64, 400):
            told = sizes(doubling(many))
            self.assertEqual(told[:-1], tuple(2 ** k for k in range(many - 1)))
            self.assertEqual(told[-1], 1)


class Grown(RefusalCase):
    def test_written_out(self):
        for makings, text in (
                ((("a",),), "a"), ((("a",), ("b",)), "b"), ((("a",), ("b",), (0, 1)), "a(b)"),
                ((("a",), ("b",), (1, 0)), "b(a)"), ((("a",), (0, 0), (1, 1)), "a(a a(a))"),
                ((("a",), (0, 0), (1, 0), (0, 2), (3, 1)), "a(a(a a) a(a))"),
                ((("abcdefgh",), (0, 0)), "abcdefgh(abcdefgh)")):
            self.assertEqual(grown(makings), read_doc(text))
            self.assertEqual(made_size(makings), size_of(read_doc(text)))

    def test_any_makings(self):
        chance = random.Random(53)
        for _ in range(300):
            makings = [(chance.choice(["a", "b"]),)]
            docs = [(makings[0][0], ())]
            for number in range(1, chance.randint(2, 9)):
                i, j = chance.randrange(number), chance.randrange(number)
                if chance.random() < 0.2:
                    makings.append(("c",))
                    docs.append(("c", ()))
                else:
                    makings.append((i, j))
                    docs.append((docs[i][0], docs[i][1] + (docs[j],)))
            self.assertEqual(made_size(tuple(makings)), size_of(docs[-1]))
            self.assertEqual(grown(tuple(makings)), docs[-1])

    def test_64_entries_that_double(self):
        for entries in range(1, 65):
            self.assertEqual(made_size(DOUBLES[:entries]), 2 ** (entries - 1))
        for entries in range(1, 10):
            doc = grown(DOUBLES[:entries])
            self.assertTrue(is_document(doc))
            self.assertEqual((size_of(doc), height_of(doc)), (2 ** (entries - 1), entries))
        for entries in range(10, 65):
            self.assert_refused(TooLarge, {"size": 2 ** (entries - 1)}, grown, DOUBLES[:entries])

    def test_300_places_and_more(self):
        # 256 + 32 + 8 + 4 places
        makings = DOUBLES[:9] + ((8, 5), (9, 3), (10, 2))
        self.assertEqual(size_of(grown(makings)), 300)
        self.assertEqual(made_size(makings), 300)
        self.assert_refused(TooLarge, {"size": 301}, grown, makings + ((11, 0),))
        self.assertEqual(made_size(makings + ((11, 0),)), 301)

    def test_entries_of_which_nothing_is_made(self):
        self.assertEqual(grown(DOUBLES + (("b",), (64, 0))), read_doc("b(a)"))
        self.assertEqual(made_size(DOUBLES + (("b",),)), 1)

    def test_great_numbers(self):
        makings = (("a",),) + tuple((k, k) for k in range(1200))
        self.assertEqual(made_size(makings), 2 ** 1200)
        self.assert_refused(TooLarge, {"size": 2 ** 1200}, grown, makings)


class Makings(RefusalCase):
    def assert_makings(self, machine, makings, size):
        """The states that are made, none of them twice, the last one with a document of that size."""
        self.assertIs(makings.__class__, tuple)
        self.assertEqual({entry.__class__ for entry in makings}, {tuple})
        states = plain.made_states(machine, makings)
        self.assertEqual(len(states), len(set(states)), (machine, makings))
        self.assertEqual(plain.made_size(makings), size)
        return states[-1]

    def test_any_tables(self):
        chance = random.Random(54)
        found, absent = 0, 0
        for _ in range(200):
            forms = "fgh"[:chance.randint(1, 3)]
            machine = plain.sample_machine(chance, chance.randint(1, 10), forms, "ab"[chance.randint(0, 2):])
            known = plain.machine_sizes(machine)
            for state in range(len(machine[4])):
                makings = makings_of(machine, state)
                if state in known:
                    self.assertEqual(self.assert_makings(machine, makings, known[state]), state)
                    if known[state] < 300:
                        self.assertEqual(state_of(machine, grown(makings)), state)
                else:
                    self.assertIsNone(makings)
            for form in forms:
                those = [known[state] for state in known if plain.in_form(machine, state, form)]
                makings = least(machine, form)
                if those:
                    state = self.assert_makings(machine, makings, min(those))
                    self.assertTrue(plain.in_form(machine, state, form))
                    found += 1
                else:
                    self.assertIsNone(makings)
                    absent += 1
        self.assertGreater(found, 100)
        self.assertGreater(absent, 10)

    def test_great_documents(self):
        machine = doubling(64)
        for state in range(63):
            self.assertEqual(self.assert_makings(machine, makings_of(machine, state), 2 ** state), state)
        self.assertEqual(self.assert_makings(machine, least(machine, "f"), 2 ** 62), 62)
        self.assertEqual(self.assert_makings(machine, least(machine, "other"), 1), 63)

    def test_names_that_are_not_the_machines(self):
        for names in ((), ("a",), tuple("abcdefghijklmnopqrst"), tuple("abcdefghijklmnopqrstuvwxyz"),
                      tuple(sorted(["aa", "ab", *"abcdefghijklmnopqrstuvwxyz"]))):
            machine = (("f",), names, (0,) * len(names) + (1,), ((0, 0), (0, 0)), (0, 1))
            makings = least(machine, "f")
            self.assertEqual(self.assert_makings(machine, makings, 1), 1)
            self.assertNotIn(makings[0][0], names)

    def test_written_out(self):
        machine = machine_of(read_book("f = a(g h g); g = b; h = c(g)"))
        self.assertEqual(grown(least(machine, "f")), read_doc("a(b c(b) b)"))
        self.assertEqual(grown(least(machine, "g")), read_doc("b"))
        machine = machine_of(read_book("f = a(f); g = b(f | g)"))
        self.assertIsNone(least(machine, "f"))
        self.assertIsNone(least(machine, "g"))

    def test_refused_forms(self):
        for form in ("x", "", "ff"):
            self.assert_refused(NoForm, {"form": form}, least, counter(3), form)
            self.assert_refused(NoForm, {"form": form}, stands, counter(3), form)


class Stands(unittest.TestCase):
    def test_written_out(self):
        # Leaves a and b, a with leaves b, all others: only the third has f, and what stands in it.
        machine = machine_of(read_book("f = a(g+); g = b"))
        told = stands(machine, "f")
        for text, truth in {"a": False, "b": True, "a(b)": True, "a(b b)": True, "c": False, "a(c)": False}.items():
            self.assertIs(told[state_of(machine, read_doc(text))], truth, text)
        self.assertIs(told.__class__, tuple)

    def test_what_is_only_begun_does_not_stand(self):
        # A document a with one child has no place in a(b b), though such a one comes of it.
        machine = machine_of(read_book("f = a(g g); g = b; h = a(g)"))
        told = stands(machine, "f")
        for text, truth in {"a": False, "b": True, "a(b)": False, "a(b b)": True, "a(b b b)": False}.items():
            self.assertIs(told[state_of(machine, read_doc(text))], truth, text)

    def test_deep_below(self):
        machine = machine_of(read_book("top = a(mid*); mid = b(low); low = c(leaf leaf); leaf = d; far = d(far | leaf)"))
        told = stands(machine, "top")
        for text, truth in {"a": True, "a(b(c(d d)))": True, "b(c(d d))": True, "c(d d)": True, "d": True, "c": False,
                            "c(d)": False, "d(d)": False, "b": False, "x": False}.items():
            self.assertIs(told[state_of(machine, read_doc(text))], truth, text)

    def test_any_tables(self):
        chance = random.Random(55)
        seen = set()
        for _ in range(300):
            many = chance.randint(1, 6)
            forms, names, starts, steps, _ = plain.sample_machine(chance, many, "f", "ab"[chance.randint(0, 2):])
            marks = tuple(int(chance.random() < 0.2) for _ in range(many))
            if chance.random() < 0.6:
                # Most steps lead to one state, so that much has no place in others.
                steps = tuple(tuple(to if chance.random() < 0.4 else many - 1 for to in row) for row in steps)
                marks = marks[:-1] + (0,)
            machine = (forms, names, starts, steps, marks)
            told = stands(machine, "f")
            self.assertEqual(told, plain.stands(machine, "f"), machine)
            seen.add((any(told), all(told)))
        self.assertEqual(seen, {(False, False), (True, False), (True, True)})

    def test_64_states(self):
        self.assertEqual(stands(doubling(64), "f"), (True,) * 63 + (False,))
        self.assertEqual(stands(counter(64), "f"), (True,) * 64)


if __name__ == "__main__":
    unittest.main()
