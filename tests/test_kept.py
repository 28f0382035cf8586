import random
import unittest

import plain
import plainturns
from graftform.booktexts import read_book
from graftform.docs import put_in, renamed, size_of, taken_out
from graftform.doctexts import read_doc
from graftform.errors import NoName, NoPlace, TooLarge
from graftform.kept import Kept
from graftform.machines import machine_of, marked
from helping import RefusalCase, counter, fan, tower

# A page holds lines, a book pages; whatever else stands there makes it none.
PAGES = machine_of(read_book("book = a(page+); page = b(line*); line = c"))


class Case(RefusalCase):
    def assert_kept(self, kept, machine, doc, looked):
        self.assertEqual(kept.now(), doc)
        self.assertEqual(kept.all_forms(), plainturns.all_forms(machine, doc))
        for place, forms in plainturns.all_forms(machine, doc):
            self.assertEqual(kept.forms_at(place), forms)
        self.assertEqual(kept.looked(), looked)


class Changes(Case):
    def test_before_any_change(self):
        doc = read_doc("a(b(c) b)")
        kept = Kept(PAGES, doc)
        self.assert_kept(kept, PAGES, doc, [])
        self.assertEqual(kept.all_forms(), marked(PAGES, doc))
        self.assertEqual(kept.forms_at(()), ["book"])
        self.assertEqual(kept.forms_at((0, 0)), ["line"])

    def test_put(self):
        kept = Kept(PAGES, read_doc("a(b(c) b)"))
        kept.put((1,), read_doc("b(c c)"))
        # A page is put among pages: the book's state is as it was.
        self.assert_kept(kept, PAGES, read_doc("a(b(c) b(c c) b)"), [(1, 0), (1, 1), (1,), ()])
        kept.put((0, 1), read_doc("c"))
        self.assert_kept(kept, PAGES, read_doc("a(b(c c) b(c c) b)"), [(0, 1), (0,)])
        kept.put((2, 0), read_doc("c(d(e f) g)"))
        self.assert_kept(kept, PAGES, read_doc("a(b(c c) b(c c) b(c(d(e f) g)))"), [
            (2, 0, 0, 0), (2, 0, 0, 1), (2, 0, 0), (2, 0, 1), (2, 0), (2,), ()])
        self.assertEqual(kept.forms_at(()), [])
        self.assertEqual(kept.forms_at((1,)), ["page"])

    def test_cut(self):
        kept = Kept(PAGES, read_doc("a(b(c c x) b)"))
        self.assertEqual(kept.forms_at(()), [])
        kept.cut((0, 2))
        self.assert_kept(kept, PAGES, read_doc("a(b(c c) b)"), [(0,), ()])
        self.assertEqual(kept.forms_at(()), ["book"])
        kept.cut((0, 0))
        self.assert_kept(kept, PAGES, read_doc("a(b(c) b)"), [(0,)])
        kept.cut((0,))
        self.assert_kept(kept, PAGES, read_doc("a(b)"), [()])
        kept.cut((0,))
        self.assert_kept(kept, PAGES, read_doc("a"), [()])

    def test_rename(self):
        kept = Kept(PAGES, read_doc("a(b(c c) b)"))
        kept.rename((0, 1), "d")
        self.assert_kept(kept, PAGES, read_doc("a(b(c d) b)"), [(0, 1), (0,), ()])
        kept.rename((0, 1), "d")
        self.assert_kept(kept, PAGES, read_doc("a(b(c d) b)"), [(0, 1)])
        # Another name that no rule has leads to the same state.
        kept.rename((0, 1), "e")
        self.assert_kept(kept, PAGES, read_doc("a(b(c e) b)"), [(0, 1)])
        kept.rename((0, 0), "e")
        # With e in it, the page is none before and behind.
        self.assert_kept(kept, PAGES, read_doc("a(b(e e) b)"), [(0, 0), (0,)])
        kept.rename((), "b")
        self.assert_kept(kept, PAGES, read_doc("b(b(e e) b)"), [()])

    def test_the_first_place_with_an_equal_state_ends_the_way_up(self):
        # Counted by four: what changes below changes all up to the top, but for four at once.
        machine = counter(4)
        kept = Kept(machine, tower(5))
        kept.put((0, 0, 0, 0, 0), read_doc("a(b c)"))
        self.assertEqual(kept.looked(), [
            (0,) * 5 + (0,), (0,) * 5 + (1,), (0,) * 5, (0,) * 4, (0,) * 3, (0,) * 2, (0,), ()])
        kept.put((0, 0, 1), read_doc("a(b(c) d)"))
        self.assertEqual(kept.looked(), [(0, 0, 1, 0, 0), (0, 0, 1, 0), (0, 0, 1, 1), (0, 0, 1), (0, 0)])
        kept.cut((0, 0, 1))
        self.assertEqual(kept.looked(), [(0, 0)])
        kept.rename((0, 0), "z")
        self.assertEqual(kept.looked(), [(0, 0)])

    def test_any_machines_and_changes(self):
        chance = random.Random(81)
        stopped = 0
        for _ in range(80):
            machine = plain.sample_machine(chance, chance.randint(1, 4), "fg", "ab")
            doc = plainturns.sample_doc(chance, chance.randint(1, 12))
            kept = Kept(machine, doc)
            for _ in range(12):
                places = [place for place, _ in plain.all_places(doc)]
                place = chance.choice(places)
                deed = chance.choice(["put", "put", "cut", "rename"])
                if deed == "put":
                    new = plainturns.sample_doc(chance, chance.randint(1, 5))
                    place += (chance.randint(0, len(plainturns.doc_at(doc, place)[1])),)
                    after, above = put_in(doc, place, new), place[:-1]
                    looked = [place + below for below in plainturns.from_below(new)]
                    kept.put(place, new)
                elif deed == "cut" and place:
                    after, above, looked = taken_out(doc, place), place[:-1], []
                    kept.cut(place)
                else:
                    name = chance.choice("abx")
                    after, above, looked = renamed(doc, place, name), place, []
                    kept.rename(place, name)
                up = plainturns.looked(machine, doc, after, above)
                stopped += up[-1] != ()
                self.assert_kept(kept, machine, after, looked + up)
                doc = after
        self.assertGreater(stopped, 50)

    def test_two_documents_beside_one_another(self):
        doc = read_doc("a(b(c) b)")
        one, other = Kept(PAGES, doc), Kept(PAGES, doc)
        new = read_doc("b(c)")
        one.put((2,), new)
        other.put((0,), new)
        one.cut((2, 0))
        one.rename((0,), "x")
        self.assert_kept(one, PAGES, read_doc("a(x(c) b b)"), [(0,), ()])
        self.assert_kept(other, PAGES, read_doc("a(b(c) b(c) b)"), [(0, 0), (0,), ()])
        self.assertEqual(doc, read_doc("a(b(c) b)"))
        again = Kept(PAGES, one.now())
        one.rename((0,), "b")
        self.assert_kept(again, PAGES, read_doc("a(x(c) b b)"), [])

    def test_one_new_document_put_in_twice(self):
        kept = Kept(PAGES, read_doc("a"))
        new = read_doc("b(c)")
        kept.put((0,), new)
        kept.put((1,), new)
        kept.rename((0, 0), "x")
        self.assert_kept(kept, PAGES, read_doc("a(b(x) b(c))"), [(0, 0), (0,), ()])
        self.assertEqual(new, read_doc("b(c)"))

    def test_lists_are_the_askers_own(self):
        kept = Kept(PAGES, read_doc("a(b)"))
        kept.rename((0,), "b")
        before = (kept.looked(), kept.forms_at(()), kept.all_forms())
        told = kept.looked()
        told.append("x")
        kept.forms_at(()).append("x")
        all_forms = kept.all_forms()
        all_forms[0][1].append("x")
        all_forms.pop()
        self.assertEqual((kept.looked(), kept.forms_at(()), kept.all_forms()), before)
        held = kept.looked()
        kept.cut((0,))
        self.assertEqual(held, [(0,)])

    def test_high_and_wide_documents(self):
        machine = counter(64)
        kept = Kept(machine, tower(63))
        kept.put((0,) * 63, ("a", ()))
        self.assertEqual(kept.looked(), [(0,) * depth for depth in range(63, -1, -1)])
        self.assert_kept(kept, machine, tower(64), kept.looked())
        kept = Kept(machine, fan(299))
        kept.cut((150,))
        self.assert_kept(kept, machine, fan(298), [()])


class Refused(Case):
    def assert_unchanged(self, refusal, fields, deed, *things):
        """The deed is refused, before any change and behind one."""
        doc = read_doc("a(b(c) b)")
        kept = Kept(PAGES, doc)
        self.assert_refused(refusal, fields, getattr(kept, deed), *things)
        self.assert_kept(kept, PAGES, doc, [])
        kept.rename((0, 0), "c")
        self.assert_refused(refusal, fields, getattr(kept, deed), *things)
        self.assert_kept(kept, PAGES, doc, [(0, 0)])

    def test_places(self):
        new = ("c", ())
        for place in ((), (3,), (-1,), (0, 2), (0, 0, 1), (5, 0), (True,), (0, False), (10 ** 4000,), ("0",), (None,)):
            self.assert_unchanged(NoPlace, {"place": place}, "put", place, new)
        for place in ((), (2,), (-1,), (0, 1), (0, 0, 0), (5, 0), (True,), (10 ** 4000,)):
            self.assert_unchanged(NoPlace, {"place": place}, "cut", place)
        for place in ((2,), (-1,), (0, 1), (0, 0, 0), (5, 0), (False,), (10 ** 4000,)):
            self.assert_unchanged(NoPlace, {"place": place}, "rename", place, "x")
            self.assert_unchanged(NoPlace, {"place": place}, "forms_at", place)

    def test_names(self):
        for name in ("", "A", "abcdefghi", "a b", 7, None, ("a",), "a\n"):
            self.assert_unchanged(NoName, {"name": name}, "rename", (0,), name)
            self.assert_unchanged(NoPlace, {"place": (7,)}, "rename", (7,), name)

    def test_300_places_and_more(self):
        machine = counter(7)
        kept = Kept(machine, fan(296))
        kept.put((0, 0), ("a", (("b", ()), ("c", ()))))
        self.assertEqual(size_of(kept.now()), 300)
        looked = kept.looked()
        for new, size in ((("a", ()), 301), (fan(4), 305), (fan(299), 600)):
            self.assert_refused(TooLarge, {"size": size}, kept.put, (296,), new)
            self.assert_refused(TooLarge, {"size": size}, kept.put, (0, 0, 1, 0), new)
            self.assert_refused(NoPlace, {"place": (298,)}, kept.put, (298,), new)
            self.assertEqual(kept.looked(), looked)
            self.assertEqual(kept.all_forms(), plainturns.all_forms(machine, kept.now()))
        kept.rename((), "z")
        kept.cut((295,))
        kept.put((295,), ("a", ()))
        self.assertEqual(kept.looked(), [(295,), ()])
        self.assertEqual(size_of(kept.now()), 300)


if __name__ == "__main__":
    unittest.main()
