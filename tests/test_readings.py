import random
import unittest
from unittest import mock

import plain
from graftform.booktexts import read_book
from graftform.books import book_of
from graftform.docs import size_of
from graftform.doctexts import read_doc
from graftform.errors import NoForm
from graftform.patterns import pattern_of
from graftform.readings import plain_forms, reading
from graftform.rows import LeftSets
from helping import RefusalCase, fan, small_docs, tower


def book_told(rules):
    return book_of([(form, name, pattern_of(told)) for form, name, told in rules])


class PlainForms(unittest.TestCase):
    def assert_forms(self, book, forms_by_text):
        for text, forms in forms_by_text.items():
            told = plain_forms(book, read_doc(text))
            self.assertIs(told.__class__, list)
            self.assertEqual(told, forms.split(), text)

    def test_written_out(self):
        self.assert_forms(read_book("leaf = a; pair = b(leaf leaf); nest = b(leaf | nest)"), {
            "a": "leaf", "b": "", "c": "", "b(a)": "nest", "b(a a)": "pair", "a(a)": "", "b(b(a))": "nest",
            "b(b(a a))": "", "b(b(b(a)))": "nest", "b(c)": "", "b(a c)": "", "c(a)": "", "b(a a a)": "",
        })

    def test_in_the_books_order(self):
        self.assert_forms(read_book("z = a; y = a(z*); m = b; b = a(y?)"), {
            "a": "z y b", "a(a)": "y b", "a(a a)": "y", "a(b)": "", "b": "m", "a(a(a))": "b", "a(a(a a))": "b",
        })

    def test_forms_that_speak_of_one_another(self):
        even = read_book("even = a(odd | ); odd = a(even)")
        for height in range(1, 65):
            self.assertEqual(plain_forms(even, tower(height)), ["even" if height % 2 else "odd"])

    def test_small_documents_by_every_cut_and_dealing(self):
        chance = random.Random(21)
        docs = [doc for size in range(1, 5) for doc in small_docs(size)]
        seen = set()
        for _ in range(120):
            rules = plain.sample_rules(chance, chance.randint(1, 4), 5, 3)
            book = book_told(rules)
            for doc in docs:
                forms = plain.doc_forms(rules, doc)
                self.assertEqual(plain_forms(book, doc), list(forms), (rules, doc))
                seen.add(len(forms))
        self.assertEqual(seen, {0, 1, 2, 3, 4})

    def test_a_name_that_no_rule_has(self):
        self.assert_forms(read_book("f = a(f*)"), {"b": "", "a(b)": "", "b(a)": "", "a(a a(a))": "f"})

    def test_told_lists_are_new(self):
        book = read_book("f = a(f*); g = a")
        first = plain_forms(book, read_doc("a"))
        first.append("x")
        self.assertEqual(plain_forms(book, read_doc("a")), ["f", "g"])

    def test_large_documents(self):
        book = read_book("f = a(f* g* h*); g = a(g | h |); h = a((f & g & h)? | f)")
        for doc in (tower(64), fan(299), ("a", tuple(tower(63) for _ in range(4))), ("a", (("a", ()),) * 299)):
            pairs = reading(book, "f", doc)
            self.assertEqual(pairs is not None, "f" in plain_forms(book, doc))


class Readings(RefusalCase):
    def assert_read(self, rules, doc):
        """Each form's reading, held against the words of the point; the number of those that there are."""
        book = book_told(rules)
        forms = plain.doc_forms(rules, doc)
        for form, _, _ in rules:
            pairs = reading(book, form, doc)
            if form not in forms:
                self.assertIsNone(pairs)
                continue
            self.assertIs(pairs.__class__, list)
            self.assertEqual({pair.__class__ for pair in pairs}, {tuple})
            self.assertTrue(plain.is_reading(rules, form, doc, pairs), (rules, doc, pairs))
        return len(forms)

    def test_written_out(self):
        book = read_book("top = a(left right | right right); left = b; right = b(left?)")
        self.assertEqual(reading(book, "top", read_doc("a(b b(b))")), [
            ((), "top"), ((0,), reading(book, "top", read_doc("a(b b(b))"))[1][1]), ((1,), "right"), ((1, 0), "left")])
        self.assertEqual(reading(book, "top", read_doc("a(b(b) b)")), [
            ((), "top"), ((0,), "right"), ((0, 0), "left"), ((1,), "right")])
        self.assertEqual(reading(book, "left", read_doc("b")), [((), "left")])
        self.assertEqual(reading(book, "right", read_doc("b")), [((), "right")])
        self.assertIsNone(reading(book, "left", read_doc("b(b)")))
        self.assertIsNone(reading(book, "top", read_doc("b")))
        self.assertIsNone(reading(book, "top", read_doc("c")))

    def test_each_child_has_one_form(self):
        book = read_book("top = a(f g f & g); f = b; g = b")
        pairs = reading(book, "top", read_doc("a(b b b b)"))
        self.assertEqual(sorted(form for _, form in pairs), ["f", "f", "g", "g", "top"])
        book = read_book("top = a(f g); f = b(x*); g = b(x*); x = c")
        self.assertEqual(reading(book, "top", read_doc("a(b(c) b(c c))")), [
            ((), "top"), ((0,), "f"), ((0, 0), "x"), ((1,), "g"), ((1, 0), "x"), ((1, 1), "x")])

    def test_small_documents(self):
        chance = random.Random(22)
        docs = [doc for size in range(1, 5) for doc in small_docs(size)]
        found = 0
        for _ in range(100):
            rules = plain.sample_rules(chance, chance.randint(1, 4), 6, 4, chance.choice(["a", "ab"]))
            for doc in docs:
                found += self.assert_read(rules, doc)
        self.assertGreater(found, 600)

    def test_children_with_many_forms(self):
        chance = random.Random(23)
        found = 0
        for _ in range(150):
            leaves = tuple((form, "b", ("chain", ())) for form in "ghi")
            leaves = chance.sample(leaves, 3)
            rules = (("f", "a", plain.sample(chance, 8, 5, "ghi")),) + tuple(leaves)
            for many in range(6):
                found += self.assert_read(rules, fan(many))
        self.assertGreater(found, 100)

    def test_refused_forms(self):
        book = read_book("f = a(f*); g = b")
        for form in ("x", "a", "", "F", "ff"):
            for doc in (read_doc("a"), read_doc("c")):
                self.assert_refused(NoForm, {"form": form}, reading, book, form, doc)

    def test_large_documents(self):
        book = read_book("f = a(g* f g* | ); g = a(f* g?) ; h = b; i = b; j = b(h*) ; k = a((h i j)* & (i | h)*)")
        rules = tuple((form, name, pattern.told()) for form, name, pattern in book)
        for doc in (tower(64), ("a", tuple(tower(63) for _ in range(4)))):
            for form in ("f", "g"):
                pairs = reading(book, form, doc)
                self.assertEqual(len(pairs), size_of(doc))
                self.assertTrue(plain.is_reading(rules, form, doc, pairs))
        pairs = reading(book, "k", fan(299))
        self.assertEqual(len(pairs), 300)
        self.assertIsNotNone(reading(book, "j", ("b", (("b", ()),) * 64)))

    def test_each_places_forms_are_reckoned_once(self):
        book = read_book("f = a(f* g*); g = a(g?); h = b(f)")
        for doc in (tower(64), ("a", tuple(tower(5) for _ in range(20)))):
            for call in (lambda: plain_forms(book, doc), lambda: reading(book, "f", doc)):
                with mock.patch.object(LeftSets, "fitted", autospec=True, side_effect=LeftSets.fitted) as asked:
                    call()
                self.assertLessEqual(asked.call_count, 2 * size_of(doc))

    def test_nothing_is_changed(self):
        book = read_book("f = a(f* g*); g = a(g?)")
        told = [(form, name, pattern.told()) for form, name, pattern in book]
        doc = read_doc("a(a a(a))")
        first = reading(book, "f", doc)
        first.clear()
        self.assertEqual(len(reading(book, "f", doc)), 4)
        self.assertEqual([(form, name, pattern.told()) for form, name, pattern in book], told)


if __name__ == "__main__":
    unittest.main()
