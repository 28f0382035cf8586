import itertools
import random
import unittest

import plain
from graftform.booktexts import read_book, read_pattern, show_book, show_pattern
from graftform.books import book_of
from graftform.errors import NoBook, NoPattern
from graftform.patterns import chain, choice, mixed, one, pattern_of, times
from helping import RefusalCase

A, B, C, D = one("a"), one("b"), one("c"), one("d")
EMPTY = chain([])
TEXTS = {
    "": EMPTY, "   ": EMPTY, "()": EMPTY, "( )": EMPTY, "(())": EMPTY, "()()": EMPTY, "()*": EMPTY, "&": EMPTY,
    "&&": EMPTY, "(&)": EMPTY, "|": EMPTY, "||": EMPTY, "&|&": EMPTY, "(|)&": EMPTY, "a{0}": EMPTY, "a{0,0}": EMPTY,
    "a": A, "abcdefgh": one("abcdefgh"), " a ": A, "(a)": A, "((a))": A, "a{1}": A, "a{1,1}": A, "a&": A, "&a": A,
    "a()": A, "a|a": A, "(a|a)a{0}": A,
    "a b": chain([A, B]), "ab": one("ab"), "a b c": chain([A, B, C]), "a(b)c": chain([A, B, C]),
    "(a b)(c d)": chain([A, B, C, D]), "a a": chain([A, A]),
    "a&b": mixed([A, B]), "a b&c": mixed([chain([A, B]), C]), "a&b c": mixed([A, chain([B, C])]),
    "(a&b)c": chain([mixed([A, B]), C]), "(a&b)&c": mixed([A, B, C]), "a&a": mixed([A, A]),
    "a|b": choice([A, B]), "a&b|c": choice([mixed([A, B]), C]), "a|b&c": choice([A, mixed([B, C])]),
    "(a|b)&c": mixed([choice([A, B]), C]), "(a|b)c": chain([choice([A, B]), C]), "a|(b|c)": choice([A, B, C]),
    "a b|c": choice([chain([A, B]), C]), "a|b|a": choice([A, B]), "a b&c|d": choice([mixed([chain([A, B]), C]), D]),
    "a|": choice([A, EMPTY]), "|a": choice([EMPTY, A]), "a||b": choice([A, EMPTY, B]), "()|a": choice([EMPTY, A]),
    "&|a": choice([EMPTY, A]), "(a|)b": chain([choice([A, EMPTY]), B]), "a&&b": mixed([A, B]),
    "a?": times(A, 0, 1), "a*": times(A), "a+": times(A, 1), "a{2}": times(A, 2, 2), "a{2,}": times(A, 2),
    "a{2,5}": times(A, 2, 5), "a{0,}": times(A), "a{0,1}": times(A, 0, 1), "a{0,9}": times(A, 0, 9),
    "a{9}": times(A, 9, 9), "a{9,9}": times(A, 9, 9), "a{9,}": times(A, 9), "a{1,}": times(A, 1),
    "a{5,5}": times(A, 5, 5),
    "a b*": chain([A, times(B)]), "(a b)*": times(chain([A, B])), "a*b": chain([times(A), B]),
    "a*b*": chain([times(A), times(B)]), "a|b*": choice([A, times(B)]), "(a|b)*": times(choice([A, B])),
    "(a&b)+": times(mixed([A, B]), 1), "(a*)*": times(times(A)), "((a?)+){2}": times(times(times(A, 0, 1), 1), 2, 2),
    "a *": times(A), "a {2}": times(A, 2, 2), " a { 2 , 5 } ": times(A, 2, 5), "a{ 2 ,}": times(A, 2),
    "a{2 }b": chain([times(A, 2, 2), B]), " ( a ) * ": times(A), "a  |  b": choice([A, B]), "abcdefgh*a": chain([
        times(one("abcdefgh")), A]),
}
WRONG = [
    "(", ")", ")(", "(a", "a)", "(a))", "((a)", "a(", "()(", "(a|b", "a|b)", "(a&", "a)b(",
    "*", "?", "+", "{2}", "(*)", "(+a)", "|*", "a|*", "&?", "a&{2}", "a b|+", " *",
    "a**", "a*?", "a+ +", "a{2}{2}", "a{2}*", "a?{2}", "(a)*+", "()**",
    "a{5,2}", "a{1,0}", "a{9,8}", "(){5,2}", "(a{0}){1,0}",
    "a{", "a{}", "a{2", "a{,}", "a{,2}", "a{2,5", "a{2,,5}", "a{2,5,}", "a{2;5}", "a{10}", "a{1 0}", "a{2,10}",
    "a{a}", "a{2,a}", "a{-1}", "a{ }", "a{2.5}", "a}", "}", "a{2}}", "a{{2}}", "a{(2)}", "a{2 5}", "{", "a{2,,}",
    "a,b", ",", "a2", "2", "a;b", "a=b", "A", "aB", "Ab", "a.b", "a-b", "[a]", "<a>", "a_b", "*a", "a!", "a'", "~",
    "abcdefghi", "abcdefghijklmnopq", "a|abcdefghi", "(abcdefghi)*", "a abcdefghi b",
    "a\n", "\n", "a\nb", "\na", "(\n)", "a{2\n}", "a\n*", "a\tb", "\u00e9", "a|\u00e9", "a{\u0662}",
]


class PatternTexts(RefusalCase):
    def test_texts(self):
        for text, pattern in TEXTS.items():
            self.assertEqual(read_pattern(text).told(), pattern.told(), text)
            self.assertEqual(plain.read(text), pattern.told(), text)

    def test_wrong_texts(self):
        for text in WRONG:
            self.assert_refused(NoPattern, {}, read_pattern, text)
            self.assertIsNone(plain.read(text), text)

    def assert_as_read(self, text):
        told = plain.read(text)
        if told is None:
            self.assert_refused(NoPattern, {}, read_pattern, text)
        else:
            self.assertEqual(read_pattern(text).told(), told, text)
        return told is not None

    def test_all_short_texts(self):
        told = 0
        for size in range(5):
            for signs in itertools.product("ab(|&)*{2,} ", repeat=size):
                told += self.assert_as_read("".join(signs))
        self.assertGreater(told, 1000)

    def test_texts_with_braces(self):
        for signs in itertools.product("023,} ", repeat=4):
            self.assert_as_read("a{" + "".join(signs))
            self.assert_as_read("a{" + "".join(signs) + "}b")

    def test_texts_with_one_sign_changed(self):
        chance = random.Random(5)
        told = 0
        for _ in range(3000):
            text = plain.write(chance, plain.sample(chance, 5, 4))
            at = chance.randrange(len(text) + 1)
            text = text[:at] + chance.choice("a(|&)*{2,} +?") + text[at + chance.choice([0, 1]):]
            told += self.assert_as_read(text)
        self.assertGreater(told, 500)

    def test_written_patterns_are_read(self):
        chance = random.Random(6)
        for _ in range(600):
            told = plain.sample(chance, 12, 6, ("a", "b", "form", "abcdefgh"))
            text = plain.write(chance, told)
            self.assertEqual(read_pattern(text).told(), told, text)

    def test_open_brackets(self):
        self.assertEqual(read_pattern("(" * 64 + "a" + ")" * 64).told(), A.told())
        self.assertEqual(read_pattern("()" * 1500).told(), EMPTY.told())
        self.assert_refused(NoPattern, {}, read_pattern, "(" * 64 + "a" + ")" * 63)
        self.assert_refused(NoPattern, {}, read_pattern, "(" * 64 + "a" + ")" * 65)
        self.assert_refused(NoPattern, {}, read_pattern, "(" * 3000)

    def test_what_is_read_can_be_asked(self):
        pattern = read_pattern("f* (g | h?)")
        self.assertEqual(pattern.speaks(), ["f", "g", "h"])
        self.assertIs(pattern.bare(), True)


class ShownPatterns(unittest.TestCase):
    def assert_shown(self, pattern):
        text = show_pattern(pattern)
        self.assertIs(text.__class__, str)
        self.assertEqual(read_pattern(text).told(), pattern.told(), text)
        self.assertEqual(plain.read(text), pattern.told(), text)

    def test_every_kind_within_every_kind(self):
        small = [EMPTY, A, one("abcdefgh"), chain([A, B]), choice([A, B]), choice([EMPTY, A]), choice([A, EMPTY]),
                 times(A), times(A, 2, 5), mixed([A, B])]
        for _ in range(2):
            found = list(small)
            for part in small:
                found += [times(part, 0, 1), times(part, 2), times(part, 1)]
                for other in (A, B, EMPTY):
                    found += [chain([part, other]), chain([other, part]), choice([part, other]), mixed([part, other]),
                              choice([other, part]), mixed([other, part])]
            small = list({pattern.told(): pattern for pattern in found}.values())
        self.assertGreater(len(small), 2000)
        for pattern in small:
            self.assert_shown(pattern)

    def test_every_count(self):
        for low in range(10):
            for high in [None, *range(low, 10)]:
                for part in (A, chain([A, B]), EMPTY, times(A, 2, 3)):
                    self.assert_shown(times(part, low, high))

    def test_any_patterns_and_what_is_left_of_them(self):
        chance = random.Random(7)
        for _ in range(300):
            pattern = pattern_of(plain.sample(chance, 24, 8, ("a", "b", "form")))
            self.assert_shown(pattern)
            for rest in pattern.left(["a", "form"])[:20]:
                self.assert_shown(rest)
                for last in rest.left(["b", "a"])[:5]:
                    self.assert_shown(last)


def told_book(book):
    return [(form, name, pattern.told()) for form, name, pattern in book]


class BookTexts(RefusalCase):
    def assert_read(self, text, rules):
        book = read_book(text)
        self.assertIs(book.__class__, tuple)
        self.assertEqual({rule.__class__ for rule in book}, {tuple})
        self.assertEqual(told_book(book), [(form, name, pattern.told()) for form, name, pattern in rules])

    def test_books(self):
        self.assert_read("a = x", [("a", "x", EMPTY)])
        self.assert_read("a=x", [("a", "x", EMPTY)])
        self.assert_read("a = x()", [("a", "x", EMPTY)])
        self.assert_read("a = x(a)", [("a", "x", A)])
        self.assert_read("  a  =  x  (  a  )  ", [("a", "x", A)])
        self.assert_read("a=x((a)(a))", [("a", "x", chain([A, A]))])
        self.assert_read("a=x(|)", [("a", "x", EMPTY)])
        self.assert_read("abcdefgh=stuvwxyz(abcdefgh{ 2 , 5 })", [("abcdefgh", "stuvwxyz", times(one("abcdefgh"), 2, 5))])
        self.assert_read("a = x(b*); b = x(a|) ;c=y", [("a", "x", times(B)), ("b", "x", choice([A, EMPTY])),
                                                       ("c", "y", EMPTY)])
        self.assert_read("a=a(b&a);b=b(b c?);c=a", [("a", "a", mixed([B, A])), ("b", "b", chain([B, times(C, 0, 1)])),
                                                    ("c", "a", EMPTY)])

    def test_eight_rules(self):
        text = ";".join(f"{form} = n({form}|h)" for form in "abcdefgh")
        self.assertEqual([rule[0] for rule in read_book(text)], list("abcdefgh"))

    def test_more_than_eight_rules_come_first(self):
        for text in (";" * 8, ";" * 20, "; a = x" * 8, "a = x;" * 8, "a = x(b);" * 8 + "c = x", "?;" * 9,
                     ";".join(f"{form} = n" for form in "abcdefghi"), ";".join(f"{form} = n" for form in "abcdefgh") + ";"):
            self.assert_refused(NoBook, {"row": 8}, read_book, text)

    def test_rules_that_are_not_written_so(self):
        for rule in ("", " ", "b", "b =", "= x", "=", "b x", "b = = x", "b == x", "b = x = y", "b = x y", "b b = x", "B = x",
                     "b = X", "b = x2", "b2 = x", "abcdefghi = x", "b = abcdefghi", "b = (a)", "b(a) = x", "b = x(a",
                     "b = x a)", "b = x(", "b = x)", "b = x(a))", "b = x((a)", "b = x(a)(b)", "b = x(a) b", "b = x(a)*",
                     "b = x(*)", "b = x(a{5,2})", "b = x(abcdefghi)", "b = x(a,b)", "b = x(A)", "(b = x)", "b = (x)",
                     "b = x(a=b)", "\nb = x", "b\n= x", "b = x\n", "b = x(a)\n", "b = x(a\n)", "b = x\t", "b -> x",
                     "b = *", "* = x", "b = x*", "b : x", "b = x{2}", "b = x(a}"):
            self.assert_refused(NoBook, {"row": 0}, read_book, rule)
            self.assert_refused(NoBook, {"row": 1}, read_book, f"a = x;{rule}")
            self.assert_refused(NoBook, {"row": 1}, read_book, f"a = x;{rule};a = y(z);?")
            self.assert_refused(NoBook, {"row": 2}, read_book, f"a = x;a = x(z);{rule}")
            self.assert_refused(NoBook, {"row": 7}, read_book, "a = x;" * 7 + rule)

    def test_what_is_written_so_but_is_no_book(self):
        self.assert_refused(NoBook, {"row": 1}, read_book, "a = x; a = x")
        self.assert_refused(NoBook, {"row": 2}, read_book, "a = x(z); b = x; a = x")
        self.assert_refused(NoBook, {"row": 0}, read_book, "a = x(b); c = x(d)")
        self.assert_refused(NoBook, {"row": 1}, read_book, "a = x(b); b = x(a | x)")

    def test_shown_books(self):
        chance = random.Random(8)
        for _ in range(300):
            many = chance.randint(1, 8)
            rules = plain.sample_rules(chance, many, 5, 4, ("x", "abcdefgh"))
            book = book_of([(form, name, pattern_of(told)) for form, name, told in rules])
            text = show_book(book)
            self.assertEqual(told_book(read_book(text)), list(rules), text)
            text = ";".join(f"{form}={name}({plain.write(chance, told)})" for form, name, told in rules)
            self.assertEqual(told_book(read_book(text)), list(rules), text)
            self.assertEqual(told_book(book), list(rules))


if __name__ == "__main__":
    unittest.main()
