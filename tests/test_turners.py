import random
import unittest

import plainturns
from graftform.docs import is_document, size_of
from graftform.doctexts import read_doc, show_doc
from graftform.errors import TooLarge, TooMany
from graftform.turners import chained, turned, turned_size
from graftform.turntexts import read_turner
from helping import RefusalCase, fan, small_docs, tower

DOCS = [doc for size in range(1, 5) for doc in small_docs(size, ("a", "b", "x"))]


def show_row(row):
    return " ".join(show_doc(doc) for doc in row)


class Turned(RefusalCase):
    def assert_turned(self, turner, doc, row):
        turner, doc = read_turner(turner), read_doc(doc)
        told = turned(turner, doc)
        self.assertEqual(show_row(told), row)
        self.assertIs(told.__class__, tuple)
        self.assertEqual(turned_size(turner, doc), sum(map(size_of, told)))

    def test_written_out(self):
        self.assert_turned("", "a(b c(d))", "a(b c(d))")
        self.assert_turned("b -> x", "a(b(e f) c(b))", "a(x c(x))")
        self.assert_turned("b -> x(*)", "a(b(e f) c(b))", "a(x(e f) c(x))")
        self.assert_turned("b -> *", "a(b(e f) c(b))", "a(e f c)")
        self.assert_turned("b ->", "a(b(e f) c(b))", "a(c)")
        self.assert_turned("a -> b(x *) *; c ->", "a(d c(e) f)", "b(x d f) d f")
        self.assert_turned("a -> * x(y(* z) *)", "a(b c)", "b c x(y(b c z) b c)")
        self.assert_turned("a -> a a", "a", "a a")
        self.assert_turned("a ->", "a(b c)", "")
        self.assert_turned("a -> *", "a", "")
        self.assert_turned("a -> *", "a(a(a b) c)", "b c")
        # What a rule makes isn't turned again.
        self.assert_turned("a -> b(*); b -> a(*)", "a(b(a))", "b(a(b))")
        self.assert_turned("a -> a(a(*))", "a(a)", "a(a(a(a)))")
        self.assert_turned("a -> * *", "a(a(b) b)", "b b b b b b")

    def test_any_turners(self):
        chance = random.Random(91)
        lengths = set()
        for _ in range(400):
            turner = plainturns.sample_turner(chance, most=3, depth=3)
            doc = plainturns.sample_doc(chance, chance.randint(1, 9), "abxz")
            row = plainturns.turned(turner, doc)
            size = plainturns.row_size(row)
            self.assertEqual(turned_size(turner, doc), size)
            if size > 300:
                self.assert_refused(TooLarge, {"size": size}, turned, turner, doc)
            else:
                self.assertEqual(turned(turner, doc), row)
                self.assertTrue(all(map(is_document, turned(turner, doc))))
                lengths.add(len(row))
        self.assertGreaterEqual(lengths, {0, 1, 2, 3})

    def test_just_300_places(self):
        for turner, doc, size in (
                ("", fan(299), 300), ("", fan(300), 301), ("a -> a(*) x", fan(298), 300), ("a -> a(*) x", fan(299), 301),
                ("a -> * *", fan(150), 300), ("a -> * * x", fan(150), 301), ("b -> b b b", fan(99), 298),
                ("b -> b b b", fan(100), 301), ("a -> a(*) b(b)", fan(297), 300)):
            turner = read_turner(turner)
            self.assertEqual(turned_size(turner, doc), size)
            if size > 300:
                self.assert_refused(TooLarge, {"size": size}, turned, turner, doc)
            else:
                self.assertEqual(turned(turner, doc), plainturns.turned(turner, doc))

    def test_numbers_of_some_hundred_figures(self):
        turner = read_turner("a -> " + " ".join(["*"] * 40))
        doc = tower(64)
        self.assertEqual(turned_size(turner, doc), 0)
        self.assertEqual(turned(turner, doc), ())
        doc = read_doc("a(" * 63 + "b" + ")" * 63)
        self.assertEqual(turned_size(turner, doc), 40 ** 63)
        self.assert_refused(TooLarge, {"size": 40 ** 63}, turned, turner, doc)
        turner = read_turner("a -> x " + " ".join(["*"] * 39))
        size = sum(39 ** k for k in range(64))
        self.assertEqual(turned_size(turner, tower(64)), size)
        self.assert_refused(TooLarge, {"size": size}, turned, turner, tower(64))

    def test_small_rows_beside_what_is_left_out(self):
        many = "a -> x " + " ".join(["*"] * 39)
        great = "a(" * 60 + "a" + ")" * 60
        self.assert_turned(many + "; b -> y(z)", f"c(b({great}) d)", "c(y(z) d)")
        self.assert_turned(many + "; b ->", f"c(b({great} {great}) d)", "c(d)")
        self.assert_turned(many + "; b -> y; e -> * *", f"c(e(b({great}) d))", "c(y d y d)")
        turner = read_turner(many + "; b -> y(z)")
        doc = read_doc(f"c(b({great}) {great})")
        self.assert_refused(TooLarge, {"size": 3 + sum(39 ** k for k in range(61))}, turned, turner, doc)

    def test_each_place_is_reckoned_once(self):
        # Looked at anew for each hole, these would never end.
        turner = read_turner("a -> * * * *; b ->")
        doc = read_doc("a(" * 60 + "b" + ")" * 60)
        self.assertEqual(turned_size(turner, doc), 0)
        self.assertEqual(turned(turner, doc), ())

    def test_the_greatest_rules(self):
        items = ("*",)
        for name in "hgfedcb":
            items = ((name, items),)
        turner = (("a", items),)
        self.assertEqual(show_row(turned(turner, read_doc("a(x y)"))), "b(c(d(e(f(g(h(x y)))))))")
        turner = (("a", (("b", ("*",) * 39),)),)
        self.assertEqual(turned(turner, read_doc("a(x)")), (("b", (("x", ()),) * 39),))

    def test_nothing_handed_in_is_changed(self):
        turner = read_turner("a -> b(x *) *; c ->")
        doc = read_doc("a(a c)")
        turned(turner, doc)
        chained(turner, turner)
        self.assertEqual(turner, read_turner("a -> b(x *) *; c ->"))
        self.assertEqual(doc, read_doc("a(a c)"))


class Chained(RefusalCase):
    def assert_chained(self, first, second, told):
        first, second = read_turner(first), read_turner(second)
        self.assertEqual(chained(first, second), read_turner(told))
        self.assertEqual(plainturns.chained(first, second), read_turner(told))

    def test_written_out(self):
        self.assert_chained("", "", "")
        self.assert_chained("a -> b(* x)", "", "a -> b(* x)")
        self.assert_chained("", "a -> b(* x)", "a -> b(* x)")
        self.assert_chained("a -> b(x *)", "b -> c(* y) *", "a -> c(x * y) x *; b -> c(* y) *")
        self.assert_chained("a -> *", "a -> b", "a -> *")
        self.assert_chained("a -> b", "a -> c", "a -> b")
        self.assert_chained("a -> b(a)", "a -> c d", "a -> b(c d)")
        self.assert_chained("a ->", "a -> x", "a ->")
        self.assert_chained("a -> b(*) c", "b ->; c -> * d *", "a -> d; b ->; c -> * d *")
        self.assert_chained("a -> b(*) b", "b -> *", "a -> *; b -> *")

    def test_rules_in_their_order(self):
        told = chained(read_turner("c -> *; a -> b"), read_turner("b -> x; c -> y; d ->; a -> z"))
        self.assertEqual([name for name, _ in told], ["c", "a", "b", "d"])
        self.assertEqual(told, read_turner("c -> *; a -> x; b -> x; d ->"))

    def test_any_turners(self):
        chance = random.Random(92)
        taken = refused = 0
        for _ in range(400):
            first = plainturns.sample_turner(chance, most=chance.randint(1, 3), depth=3)
            second = plainturns.sample_turner(chance, most=chance.randint(1, 3), depth=3)
            expected = plainturns.chained(first, second)
            if any(plainturns.count_items(items) > 40 or plainturns.count_within(items) > 8 for _, items in expected):
                self.assert_refused(TooMany, {}, chained, first, second)
                refused += 1
                continue
            taken += 1
            both = chained(first, second)
            self.assertEqual(both, expected)
            for doc in chance.sample(DOCS, 8):
                behind = tuple(last for made in plainturns.turned(first, doc) for last in plainturns.turned(second, made))
                self.assertEqual(plainturns.turned(both, doc), behind)
                if plainturns.row_size(behind) <= 300:
                    self.assertEqual(turned(both, doc), behind)
        self.assertGreater(taken, 200)
        self.assertGreater(refused, 5)

    def test_twelve_rules(self):
        def rules(names):
            return tuple((name, ("*",)) for name in names)

        self.assertEqual(chained(rules("abcdef"), rules("ghijkl")), rules("abcdefghijkl"))
        self.assertEqual(chained(rules("abcdefghijkl"), rules("lkjihgfedcba")), rules("abcdefghijkl"))
        self.assertEqual(chained(rules(""), rules("lkjihgfedcba")), rules("lkjihgfedcba"))
        self.assert_refused(TooMany, {}, chained, rules("abcdefg"), rules("ghijklm"))
        self.assert_refused(TooMany, {}, chained, rules("abcdefghijkl"), rules("m"))
        self.assert_refused(TooMany, {}, chained, rules("m"), rules("abcdefghijkl"))

    def test_40_items(self):
        def rule(items):
            return (("a", tuple(items)),)

        # Of the first rule's five b come eight items each, holes counted.
        second = (("b", (("c", ("*", "*")), *[("d", ())] * 3, "*", "*")),)
        five = rule([("b", (("e", ()),))] * 5)
        self.assertEqual(plainturns.count_items(plainturns.chained(five, second)[0][1]), 40)
        self.assertEqual(chained(five, second), plainturns.chained(five, second))
        self.assert_refused(TooMany, {}, chained, rule([*five[0][1], ("e", ())]), second)
        self.assert_refused(TooMany, {}, chained, rule([*five[0][1], "*"]), second)
        # Holes stay holes, and count.
        fill = (("b", ("*",) * 20),)
        self.assertEqual(chained(rule([("b", ("*", "*"))]), fill)[0], ("a", ("*",) * 40))
        self.assert_refused(TooMany, {}, chained, rule([("b", ("*", "*")), "*"]), fill)
        self.assert_refused(TooMany, {}, chained, rule([("b", ("*", "*", "*"))]), fill)
        wide = rule(["*"] * 40)
        self.assertEqual(chained(wide, ()), wide)
        self.assertEqual(chained((), wide), wide)

    def test_8_items_within_one_another(self):
        def nest(names, inner):
            for name in reversed(names):
                inner = ((name, inner),)
            return inner

        second = (("b", nest("cde", ("*",))),)
        for names, inner, height in (
                ("bb", (), 6), ("bbc", ("*",), 8), ("bbc", (("x", ()),), 8), ("bbcc", (), 8), ("bbcc", ("*",), 9),
                ("bbcc", (("x", ()),), 9), ("bbb", (), 9), ("bbccc", (), 9), ("bbbbbbbb", (), 24)):
            first = (("a", nest(names, inner)),)
            expected = plainturns.chained(first, second)
            self.assertEqual(plainturns.count_within(expected[0][1]), height)
            if height > 8:
                self.assert_refused(TooMany, {}, chained, first, second)
            else:
                self.assertEqual(chained(first, second), expected)
        # So it is where the second one's own items end without a hole.
        full = (("b", nest("cdefghij", ())),)
        self.assertEqual(chained((("a", nest("b", ())),), full)[0], ("a", full[0][1]))
        self.assert_refused(TooMany, {}, chained, (("a", nest("xb", ())),), full)
        self.assert_refused(TooMany, {}, chained, (("a", nest("xb", ("*",))),), full)
        # What is left out doesn't count.
        first = (("a", (("f", nest("bbbbbbb", ())),)),)
        second += (("f", (("g", ()),)),)
        self.assertEqual(chained(first, second)[0], ("a", (("g", ()),)))

    def test_a_hole_of_nothing_is_not_an_item(self):
        nest = (("c", (("c", (("c", (("c", (("c", (("c", (("c", ("*",)),)),)),)),)),)),)),)
        self.assertEqual(plainturns.count_within(nest), 8)
        second = (("b", nest), ("d", ()))
        self.assertEqual(plainturns.count_within(chained((("a", (("b", ()),)),), second)[0][1]), 7)
        self.assertEqual(chained((("a", (("b", (("d", ()),)),)),), second), plainturns.chained((("a", (("b", ()),)),), second))
        self.assertEqual(chained((("a", (("b", ("*",)),)),), second)[0], ("a", nest))
        self.assert_refused(TooMany, {}, chained, (("a", (("b", (("e", ("*",)),)),)),), second)

    def test_far_too_great(self):
        items = ("*",) * 33
        for _ in range(7):
            items = (("b", items),)
        first = (("a", items),)
        second = (("b", ("*",) * 40),)
        self.assert_refused(TooMany, {}, chained, first, second)
        # The same, left out, is no hindrance; nor where nothing stands in the holes.
        first = (("a", (("d", items[0][1]),)),)
        self.assertEqual(chained(first, second + (("d", (("e", ()),)),))[0], ("a", (("e", ()),)))
        items = ()
        for _ in range(8):
            items = (("b", items),)
        self.assertEqual(chained((("a", items),), second)[0], ("a", ()))


if __name__ == "__main__":
    unittest.main()
