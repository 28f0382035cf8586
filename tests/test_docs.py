import unittest

from graftform import docs
from graftform.errors import NoName, NoPlace
from helping import RefusalCase, fan, small_docs, tower

DOC = ("a", (("b", ()), ("c", (("d", ()),)), ("e", ())))
LEAF = ("n", ())
NO_NAMES = [
    "", "abcdefghi", "a" * 3000, "A", "aB", "1", "a1", "a b", " a", "a ", "a\n", "\na", "a\nb", "\n",
    "a\r", "a\t", "a_", "-", "`", "{", "a(", "a.", "\u00e9", "a\u00e9", "\u0430", "\uff41", "a\u0301", "\x00",
    0, 1, -1, 10 ** 5000, None, True, False, b"a", b"", [], ["a"], ["a", "b"], (), ("a",), ("a", ()),
    {}, {"a": 1}, {"a"}, frozenset("a"), object(), str, len,
]
NO_DOCS = [
    "a", "", "a()", b"a", 0, 7, 10 ** 5000, None, True, False, [], {}, {"a": ()}, {"a"}, object(), tuple,
    (), ("a",), ((),), ((), ()), ("a", (), ()), ("a", (), None), [("a", ())], ["a", ()],
    ("a", []), ("a", "b"), ("a", ""), ("a", None), ("a", {}), ("a", 0), ("a", True), ("a", b""), ("a", frozenset()),
    ("a", [("b", ())]), ("a", ("b", ())), ("a", (("b", ()), "c")), ("a", ((),)), ("a", (("b",),)),
    ("a", (("b", (), ()),)), ("a", (["b", ()],)), ("a", ("b",)), ("a", (None,)), ("a", (0,)),
    ("", ()), ("abcdefghi", ()), ("A", ()), ("a\n", ()), (None, ()), (1, ()), (True, ()), (b"a", ()), (["a"], ()),
    ((), "a"), (("a", ()), ()), ("a", ((("b", ()),),)),
]


def wrapped(thing, height, at=0, children=1):
    """The thing at the bottom of a tower, as the at-th child each time."""
    for _ in range(height):
        row = [("b", ())] * children
        row[at] = thing
        thing = ("a", tuple(row))
    return thing


class Names(unittest.TestCase):
    def test_names_of_one_to_eight_letters(self):
        for size in range(1, 9):
            for letter in "abcdefghijklmnopqrstuvwxyz":
                self.assertIs(docs.is_name(letter * size), True)
        self.assertIs(docs.is_name("abcdefgh"), True)
        self.assertIs(docs.is_name("stuvwxyz"), True)

    def test_no_names(self):
        for thing in NO_NAMES:
            with self.subTest(repr(thing)[:50] if not isinstance(thing, int) else "int"):
                self.assertIs(docs.is_name(thing), False)

    def test_a_wrong_sign_at_any_spot(self):
        for size in range(1, 9):
            for spot in range(size):
                for sign in "AZ`{0 (.\n\r\t*\u00df\u0131":
                    text = "m" * spot + sign + "m" * (size - spot - 1)
                    self.assertIs(docs.is_name(text), False, repr(text))


class Documents(unittest.TestCase):
    def test_documents(self):
        for doc in (DOC, LEAF, fan(1000), tower(100), ("abcdefgh", (LEAF,))):
            self.assertIs(docs.is_document(doc), True)

    def test_all_small_documents(self):
        for size in range(1, 6):
            for doc in small_docs(size):
                self.assertIs(docs.is_document(doc), True)

    def test_no_documents(self):
        for thing in NO_DOCS:
            with self.subTest(repr(thing)[:50] if not isinstance(thing, int) else "int"):
                self.assertIs(docs.is_document(thing), False)

    def test_a_wrong_thing_below(self):
        for thing in NO_DOCS:
            for height, at, children in ((1, 0, 1), (2, 1, 3), (5, 2, 3), (20, 0, 2)):
                self.assertIs(docs.is_document(wrapped(thing, height, at, children)), False)

    def test_a_wrong_name_at_any_place(self):
        for place in docs.places_of(DOC):
            for name in ("", "abcdefghi", "a\n", None, 1, True, ("a",)):
                self.assertIs(docs.is_document(planted(DOC, place, (name, docs.at_place(DOC, place)[1]))), False)

    def test_wrong_children_at_any_place(self):
        for place in docs.places_of(DOC):
            name, row = docs.at_place(DOC, place)
            for thing in ((name, list(row)), (name, "b"), (name, None), (name,), (name, row, row), [name, row], None):
                self.assertIs(docs.is_document(planted(DOC, place, thing)), False)

    def test_high_and_wide(self):
        self.assertIs(docs.is_document(wrapped(LEAF, 99)), True)
        self.assertIs(docs.is_document(wrapped(("n", []), 99)), False)
        self.assertIs(docs.is_document(wrapped(("n\n", ()), 99)), False)
        self.assertIs(docs.is_document(wrapped(LEAF, 1, 999, 1000)), True)
        for at in (0, 500, 999):
            self.assertIs(docs.is_document(wrapped(("n",), 1, at, 1000)), False)
        self.assertIs(docs.is_document(fan(100000)), True)


def planted(doc, place, thing):
    """The document with any thing at a place, without the program's help."""
    if not place:
        return thing
    name, row = doc
    k = place[0]
    return (name, row[:k] + (planted(row[k], place[1:], thing),) + row[k + 1:])


class Places(RefusalCase):
    def test_one_place(self):
        self.assertEqual(docs.places_of(LEAF), [()])
        self.assertEqual(docs.size_of(LEAF), 1)
        self.assertEqual(docs.height_of(LEAF), 1)
        self.assertEqual(docs.at_place(LEAF, ()), LEAF)

    def test_order(self):
        self.assertEqual(docs.places_of(DOC), [(), (0,), (1,), (1, 0), (2,)])
        deep = ("a", (("b", (("c", (("d", ()), ("e", ()))), ("f", ()))), ("g", (("h", ()),))))
        self.assertEqual(docs.places_of(deep), [
            (), (0,), (0, 0), (0, 0, 0), (0, 0, 1), (0, 1), (1,), (1, 0)])
        names = [docs.at_place(deep, place)[0] for place in docs.places_of(deep)]
        self.assertEqual("".join(names), "abcdefgh")

    def test_small_documents(self):
        for size in range(1, 6):
            for doc in small_docs(size):
                places = docs.places_of(doc)
                self.assertIs(places.__class__, list)
                self.assertEqual(docs.size_of(doc), size)
                self.assertEqual(len(places), size)
                # In Python, too, a tuple comes ahead of those that go on from it.
                self.assertEqual(places, sorted(set(places)))
                self.assertEqual(docs.height_of(doc), 1 + max(map(len, places)))

    def test_high(self):
        doc = tower(64)
        self.assertEqual(docs.height_of(doc), 64)
        self.assertEqual(docs.size_of(doc), 64)
        self.assertEqual(docs.places_of(doc), [(0,) * k for k in range(64)])
        self.assertEqual(docs.at_place(doc, (0,) * 63), ("a", ()))
        self.assert_refused(NoPlace, {"place": (0,) * 64}, docs.at_place, doc, (0,) * 64)

    def test_wide(self):
        doc = fan(299)
        self.assertEqual(docs.size_of(doc), 300)
        self.assertEqual(docs.height_of(doc), 2)
        self.assertEqual(docs.places_of(doc), [()] + [(k,) for k in range(299)])

    def test_high_child_last_or_first(self):
        self.assertEqual(docs.height_of(("a", (LEAF, tower(5), tower(3)))), 6)
        self.assertEqual(docs.height_of(("a", (tower(5), LEAF))), 6)

    def test_the_list_is_the_askers(self):
        first = docs.places_of(DOC)
        second = docs.places_of(DOC)
        first.clear()
        first.append("x")
        self.assertEqual(second, [(), (0,), (1,), (1, 0), (2,)])
        self.assertEqual(docs.places_of(DOC), second)

    def test_at_each_place(self):
        self.assertEqual(docs.at_place(DOC, ()), DOC)
        self.assertEqual(docs.at_place(DOC, (0,)), ("b", ()))
        self.assertEqual(docs.at_place(DOC, (1,)), ("c", (("d", ()),)))
        self.assertEqual(docs.at_place(DOC, (1, 0)), ("d", ()))
        self.assertEqual(docs.at_place(DOC, (2,)), ("e", ()))

    def test_no_place(self):
        for place in ((3,), (4,), (1000,), (10 ** 4000,), (-1,), (-3,), (-4,), (-10 ** 4000,), (0, 0), (0, -1),
                      (1, 1), (1, -1), (1, 0, 0), (1, 0, -1), (3, 0), (-1, 0), (-2, 0), (7, 7, 7), (0,) * 70,
                      (True,), (False,), (1, False), ("0",), (None,), ((),), ((0,),)):
            self.assert_refused(NoPlace, {"place": place}, docs.at_place, DOC, place)
        for place in ((0,), (-1,), (1,), (0, 0)):
            self.assert_refused(NoPlace, {"place": place}, docs.at_place, LEAF, place)


class Changes(RefusalCase):
    def test_put_in_at_each_k(self):
        b, c, e = DOC[1]
        self.assertEqual(docs.put_in(DOC, (0,), LEAF), ("a", (LEAF, b, c, e)))
        self.assertEqual(docs.put_in(DOC, (1,), LEAF), ("a", (b, LEAF, c, e)))
        self.assertEqual(docs.put_in(DOC, (2,), LEAF), ("a", (b, c, LEAF, e)))
        self.assertEqual(docs.put_in(DOC, (3,), LEAF), ("a", (b, c, e, LEAF)))

    def test_put_in_below(self):
        b, c, e = DOC[1]
        self.assertEqual(docs.put_in(DOC, (0, 0), c), ("a", (("b", (c,)), c, e)))
        self.assertEqual(docs.put_in(DOC, (1, 0), LEAF), ("a", (b, ("c", (LEAF, ("d", ()))), e)))
        self.assertEqual(docs.put_in(DOC, (1, 1), LEAF), ("a", (b, ("c", (("d", ()), LEAF)), e)))
        self.assertEqual(docs.put_in(DOC, (1, 0, 0), LEAF), ("a", (b, ("c", (("d", (LEAF,)),)), e)))
        self.assertEqual(docs.put_in(LEAF, (0,), DOC), ("n", (DOC,)))

    def test_put_in_no_place(self):
        for place in ((), (4,), (5,), (-1,), (-3,), (-4,), (0, 1), (0, -1), (1, 2), (1, -1), (1, 0, 1), (3, 0),
                      (-1, 0), (4, 0), (0, 0, 0), (1, 1, 0), (10 ** 4000,), (0, 0, 0, 0, 0), (True,), (1, True),
                      (False, 0), ("0",), (None,)):
            self.assert_refused(NoPlace, {"place": place}, docs.put_in, DOC, place, LEAF)

    def test_taken_out_at_each_place(self):
        b, c, e = DOC[1]
        self.assertEqual(docs.taken_out(DOC, (0,)), ("a", (c, e)))
        self.assertEqual(docs.taken_out(DOC, (1,)), ("a", (b, e)))
        self.assertEqual(docs.taken_out(DOC, (1, 0)), ("a", (b, ("c", ()), e)))
        self.assertEqual(docs.taken_out(DOC, (2,)), ("a", (b, c)))
        self.assertEqual(docs.taken_out(("a", (LEAF,)), (0,)), ("a", ()))

    def test_taken_out_no_place(self):
        for place in ((), (3,), (4,), (-1,), (-3,), (0, 0), (0, -1), (1, 1), (1, -1), (1, 0, 0), (3, 0), (-2, 0),
                      (10 ** 4000,), (True,), (False,), (1, False), ("0",), (None,)):
            self.assert_refused(NoPlace, {"place": place}, docs.taken_out, DOC, place)
        self.assert_refused(NoPlace, {"place": ()}, docs.taken_out, LEAF, ())

    def test_renamed_at_each_place(self):
        b, c, e = DOC[1]
        self.assertEqual(docs.renamed(DOC, (), "abcdefgh"), ("abcdefgh", (b, c, e)))
        self.assertEqual(docs.renamed(DOC, (0,), "z"), ("a", (("z", ()), c, e)))
        self.assertEqual(docs.renamed(DOC, (1,), "z"), ("a", (b, ("z", (("d", ()),)), e)))
        self.assertEqual(docs.renamed(DOC, (1, 0), "z"), ("a", (b, ("c", (("z", ()),)), e)))
        self.assertEqual(docs.renamed(DOC, (2,), "z"), ("a", (b, c, ("z", ()))))
        self.assertEqual(docs.renamed(DOC, (2,), "e"), DOC)

    def test_renamed_no_place_comes_first(self):
        for place in ((3,), (-1,), (0, 0), (1, 1), (1, -1), (1, 0, 0), (9, 9), (True,), ("0",)):
            for name in ("z", "", "Z", "abcdefghi", None):
                self.assert_refused(NoPlace, {"place": place}, docs.renamed, DOC, place, name)

    def test_renamed_no_name(self):
        for place in docs.places_of(DOC):
            for name in ("", "abcdefghi", "Z", "z\n", " z", None, 5, True, ("a",), ["a"], b"a"):
                self.assert_refused(NoName, {"name": name}, docs.renamed, DOC, place, name)

    def test_what_is_no_tuple_is_no_place(self):
        for place in ([], [0], "", "0", None, 0, {}):
            self.assert_refused(NoPlace, {"place": place}, docs.at_place, DOC, place)
            self.assert_refused(NoPlace, {"place": place}, docs.put_in, DOC, place, LEAF)
            self.assert_refused(NoPlace, {"place": place}, docs.taken_out, DOC, place)
            self.assert_refused(NoPlace, {"place": place}, docs.renamed, DOC, place, "")

    def test_changes_undo_one_another(self):
        for size in range(1, 5):
            for doc in small_docs(size):
                for place in docs.places_of(doc):
                    many = len(docs.at_place(doc, place)[1])
                    for k in range(many + 1):
                        spot = place + (k,)
                        put = docs.put_in(doc, spot, DOC)
                        self.assertEqual(docs.at_place(put, spot), DOC)
                        self.assertEqual(docs.size_of(put), size + 5)
                        self.assertEqual(docs.taken_out(put, spot), doc)
                    self.assert_refused(
                        NoPlace, {"place": place + (many + 1,)}, docs.put_in, doc, place + (many + 1,), DOC)

    def test_high_and_wide_changes(self):
        self.assertEqual(docs.put_in(tower(63), (0,) * 63, ("a", ())), tower(64))
        self.assertEqual(docs.taken_out(tower(64), (0,) * 63), tower(63))
        self.assertEqual(docs.at_place(docs.renamed(tower(64), (0,) * 63, "z"), (0,) * 63), ("z", ()))
        self.assertEqual(docs.put_in(fan(298), (298,), ("b", ())), fan(299))
        self.assertEqual(docs.taken_out(fan(299), (150,)), fan(298))

    def test_what_is_handed_in_stays(self):
        doc = ("a", (("b", ()), ("c", (("d", ()),)), ("e", ())))
        docs.put_in(doc, (1, 1), LEAF)
        docs.taken_out(doc, (1, 0))
        docs.renamed(doc, (1, 0), "z")
        docs.places_of(doc).clear()
        self.assertEqual(doc, DOC)


if __name__ == "__main__":
    unittest.main()
