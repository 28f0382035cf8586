import itertools
import re
import unittest

from graftform.docs import height_of, size_of
from graftform.doctexts import read_doc, show_doc
from graftform.errors import NoDocument
from helping import RefusalCase, fan, small_docs, tower

TEXTS = {
    "a": ("a", ()),
    "abcdefgh": ("abcdefgh", ()),
    "a(b)": ("a", (("b", ()),)),
    "a(b c(d) e)": ("a", (("b", ()), ("c", (("d", ()),)), ("e", ()))),
    "a(a(a(a)) a)": ("a", (("a", (("a", (("a", ()),)),)), ("a", ()))),
    "zz(abcdefgh stuvwxyz(x))": ("zz", (("abcdefgh", ()), ("stuvwxyz", (("x", ()),)))),
}
SPOTS = {
    "": 0, " ": 0, "(": 0, ")": 0, "A": 0, "1": 0, "\n": 0, "(a)": 0, " a": 0, "\na": 0, "*": 0,
    "a ": 1, "a\n": 1, "a)": 1, "aB": 1, "a b": 1, "a,": 1, "a1": 1, "a.": 1, "a\u00e9": 1, "\u00e9": 0,
    "a(": 2, "a()": 2, "a( ": 2, "a((": 2, "a(\n": 2, "a( b)": 2,
    "a(b": 3, "a(b(": 4, "a(b ": 4, "a(b  c)": 4, "a(b )": 4, "a(b (c))": 4, "a(b,c)": 3, "a(b\nc)": 3,
    "a(b)c": 4, "a(b) ": 4, "a(b)\n": 4, "a(b))": 4, "a(b)(c)": 4, "a(b) c": 4,
    "a(b(c)": 6, "a(b(c) ": 7, "a(b(c)d)": 6, "a(b(c)(d))": 6, "a(b c(d) e": 10, "a(b c(d) e) ": 11,
    "abcdefghi": 8, "abcdefghijk": 8, "a(abcdefghi)": 10, "a(b abcdefghi": 12, "abcdefghi(a)": 8,
    "a(b c(d)e)": 8, "a (b)": 1,
}


def is_text(text):
    """Whether it is a document's text, by putting what is within ahead of what is around it."""
    text = re.sub("[a-z]+", lambda found: "n" if len(found[0]) <= 8 else "?", text)
    while True:
        shorter = re.sub(r"n\([nN]( [nN])*\)", "N", text)
        if shorter == text:
            return text in ("n", "N")
        text = shorter


def can_begin(text):
    """Whether a document's text begins so: then a name at most and brackets are missing."""
    return any(is_text(text + name + ")" * k) for name in ("", "a") for k in range(text.count("(") + 1))


def spot_of(text):
    """None for a document's text."""
    if is_text(text):
        return None
    for at in range(len(text)):
        if not can_begin(text[:at + 1]):
            return at
    return len(text)


class Texts(RefusalCase):
    def assert_as_told(self, text):
        spot = spot_of(text)
        if spot is None:
            self.assertEqual(show_doc(read_doc(text)), text)
        else:
            self.assert_refused(NoDocument, {"spot": spot}, read_doc, text)

    def test_written_and_read(self):
        for text, doc in TEXTS.items():
            self.assertEqual(show_doc(doc), text)
            self.assertEqual(read_doc(text), doc)

    def test_small_documents_are_read_back(self):
        seen = set()
        for size in range(1, 6):
            for doc in small_docs(size):
                text = show_doc(doc)
                self.assertEqual(read_doc(text), doc)
                self.assertNotIn(text, seen)
                seen.add(text)

    def test_high_and_wide(self):
        for doc in (tower(64), tower(65), fan(299), ("abcdefgh", tuple(tower(60) for _ in range(4)))):
            self.assertEqual(read_doc(show_doc(doc)), doc)
        text = "a(" * 64 + "a" + ")" * 64
        self.assertEqual(height_of(read_doc(text)), 65)
        self.assertEqual(show_doc(read_doc(text)), text)
        self.assert_refused(NoDocument, {"spot": 64 * 3 + 1}, read_doc, text + ")")
        self.assert_refused(NoDocument, {"spot": 64 * 3}, read_doc, text[:-1])
        self.assert_refused(NoDocument, {"spot": 128}, read_doc, "a(" * 64)

    def test_long(self):
        text = "a(" + " ".join(["stuvwxyz"] * 333) + ")"
        self.assertEqual(len(text), 2999)
        self.assertEqual(size_of(read_doc(text)), 334)
        self.assertEqual(show_doc(read_doc(text)), text)
        self.assert_refused(NoDocument, {"spot": 2999}, read_doc, text + "\n")
        self.assert_refused(NoDocument, {"spot": 2998}, read_doc, text[:-1])
        self.assert_refused(NoDocument, {"spot": 8}, read_doc, "a" * 3000)

    def test_spots(self):
        for text, spot in SPOTS.items():
            with self.subTest(text):
                self.assert_refused(NoDocument, {"spot": spot}, read_doc, text)
                self.assertEqual(spot_of(text), spot)

    def test_all_short_texts(self):
        for size in range(6):
            for signs in itertools.product("a() B\n", repeat=size):
                self.assert_as_told("".join(signs))

    def test_one_sign_left_out_put_in_or_changed(self):
        for text in list(TEXTS) + ["ab(c(d(e f) g) hijklmno(p))"]:
            for at in range(len(text) + 1):
                self.assert_as_told(text[:at])
                self.assert_as_told(text[:at] + text[at + 1:])
                for sign in "ax() AZ0\n\t\r,;*{`~\u00e9":
                    self.assert_as_told(text[:at] + sign + text[at:])
                    self.assert_as_told(text[:at] + sign + text[at + 1:])


if __name__ == "__main__":
    unittest.main()
