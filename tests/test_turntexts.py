import random
import unittest

import plainturns
from graftform.errors import NoTurner
from graftform.turntexts import read_turner, show_turner
from helping import RefusalCase


class Written(RefusalCase):
    def test_written_out(self):
        turner = (("a", (("b", (("x", ()), "*")), "*")), ("c", ()))
        self.assertEqual(show_turner(turner), "a -> b(x *) *; c ->")
        self.assertEqual(read_turner("a -> b(x *) *; c ->"), turner)
        self.assertEqual(show_turner(()), "")
        for turner, text in (
                ((("a", ("*",)),), "a -> *"),
                ((("a", ()),), "a ->"),
                ((("abcdefgh", (("ijklmnop", ()),)),), "abcdefgh -> ijklmnop"),
                ((("a", ()), ("b", ()), ("c", ("*", "*", "*"))), "a ->; b ->; c -> * * *"),
                ((("a", (("b", (("c", (("d", ("*",)),)), "*")), ("e", ()))),), "a -> b(c(d(*)) *) e")):
            self.assertEqual(show_turner(turner), text)
            self.assertEqual(read_turner(text), turner)

    def test_any_turners(self):
        chance = random.Random(95)
        for _ in range(300):
            turner = plainturns.sample_turner(chance, ["a", "bc", "abcdefgh", "z"], most=3, depth=4)
            text = show_turner(turner)
            self.assertEqual(text, plainturns.show_turner(turner))
            self.assertEqual(read_turner(text), turner)
            rules = [" " * chance.randint(0, 3) + rule.strip(" ") + " " * chance.randint(0, 3) for rule in text.split(";")]
            self.assertEqual(read_turner(";".join(rules)), turner)

    def test_blanks_at_both_ends_of_a_rule(self):
        for text in ("a -> b;c ->", "  a -> b  ;   c ->   ", "a -> b ; c ->", "a -> b; c -> ", "a -> b;c ->     "):
            self.assertEqual(read_turner(text), (("a", (("b", ()),)), ("c", ())))

    def test_no_rules(self):
        for text in ("", " ", "     "):
            self.assertEqual(read_turner(text), ())

    def test_twelve_rules_with_40_items_and_8_within(self):
        deep = "b(c(d(e(f(g(h(*)))))))"
        wide = " ".join(["*"] * 32)
        text = "; ".join(f"{name} -> {deep} {wide}" for name in "abcdefghijkl")
        self.assertEqual(show_turner(read_turner(text)), text)
        self.assertEqual(len(read_turner(text)), 12)
        self.assertEqual(len(read_turner(text)[11][1]), 33)

    def test_kinds(self):
        turner = read_turner("a -> b(* c) *")
        self.assertIs(turner.__class__, tuple)
        self.assertIs(turner[0].__class__, tuple)
        self.assertIs(turner[0][1].__class__, tuple)
        self.assertIs(turner[0][1][0][1].__class__, tuple)


class Refused(RefusalCase):
    def assert_row(self, row, text):
        self.assert_refused(NoTurner, {"row": row}, read_turner, text)

    def test_rules_that_are_not_written_so(self):
        for rule in (
                "a -> b  c", "a ->  b", "a -> b()", "a -> b( c)", "a -> b(c )", "a -> b(c  d)", "a -> b (c)",
                "a", "a -", "a -> B", "A -> b", "abcdefghi -> b", "a -> abcdefghi", "-> b", " -> b", "->", "a b -> c",
                "a->", "a->b", "a ->b", "a  -> b", "a > b", "a - > b", "a -> b -> c", "a -> ->", "a -> **", "a -> *b",
                "a -> b*", "a -> *(b)", "a -> *()", "* -> a", "a(b) -> c", "a -> (b)", "a -> b(c", "a -> b)", "a -> b(c))",
                "a -> b(c)(d)", "a -> b(c)d", "a -> b, c", "a -> b\n", "\na -> b", "a\n-> b", "a ->\nb", "a -> b\nc",
                "a -> b\tc", "\ta -> b", "a -> 1", "a = b", "\n", "a -> b(", "a -> b(*", "a -> b(*) ) c", "a -> b.c",
                "", "  ", "a -> \u00e9", "\u00e9 -> a"):
            if rule.strip(" "):
                self.assert_row(0, rule)
                self.assert_row(0, f"  {rule}  ")
            self.assert_row(0, f"{rule}; z -> y")
            self.assert_row(1, f"z -> y; {rule}")
            self.assert_row(1, f"z -> y;{rule};{rule}; z -> y")
            self.assert_row(2, f"y ->; x ->; {rule}; z")

    def test_nothing_behind_a_last_semicolon(self):
        self.assert_row(1, "a -> b;")
        self.assert_row(1, "a -> b;  ")
        self.assert_row(0, ";")
        self.assert_row(0, "; a -> b")
        self.assert_row(1, "a -> b;; c -> d")

    def test_more_than_twelve_rules(self):
        names = "abcdefghijklm"
        twelve = "; ".join(f"{name} ->" for name in names[:12])
        self.assertEqual(len(read_turner(twelve)), 12)
        self.assert_row(12, twelve + "; m ->")
        self.assert_row(12, twelve + ";")
        self.assert_row(12, twelve + "; m ->; n ->; o ->")
        # More than twelve come ahead of all else.
        self.assert_row(12, ";" * 12)
        self.assert_row(12, "A; " + twelve)
        self.assert_row(12, "a ->; " + twelve)
        self.assert_row(11, ";".join(f"{name} ->" for name in names[:11]) + ";")

    def test_names_with_a_rule_ahead(self):
        self.assert_row(1, "a -> b; a -> c")
        self.assert_row(2, "a -> b; b ->; b -> c; a ->")
        self.assert_row(3, "a -> b; b ->; c ->; a ->")
        # A rule that isn't written so comes ahead of these.
        self.assert_row(3, "a -> b; a -> c; b ->; c")
        self.assert_row(2, "a -> b; a -> c;")

    def test_many_brackets(self):
        text = "a -> " + "b(" * 64 + "*" + ")" * 64
        self.assertEqual(show_turner(read_turner(text)), text)
        self.assert_row(0, text[:-1])
        self.assert_row(0, text + ")")


if __name__ == "__main__":
    unittest.main()
