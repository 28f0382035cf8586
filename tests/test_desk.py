import random
import unittest

import plain
import plainturns
from graftform.booktexts import read_book, show_book
from graftform.desk import Desk
from graftform.docs import size_of
from graftform.doctexts import read_doc, show_doc
from graftform.errors import (
    GraftError, NoBook, NoDocument, NoForm, NoName, NoPlace, NoRow, NoTurner, TooLarge, TooMany)
from graftform.machines import forms_of, machine_of, state_of
from helping import RefusalCase, fan

PAGES = "book = a(page+); page = b(line*); line = c"
# Counted are two kinds of children apart, so the first would have 10 times 10 states and more; the others, of which
# each counts one kind only so far, have too many together.
TOO_GREAT = "f = a(l{9} & m{9}); l = c; m = d"
LONG = "f = a(l{9} & m{4}); l = c; m = d"
BROAD = "f = a(l{4} & m{9}); l = c; m = d"


class DeskCase(RefusalCase):
    def setUp(self):
        self.desk = Desk()
        self.tell("book p " + PAGES, "doc d p a(b(c) b)", "turner t c -> c c; b -> b(*) d")

    def tell(self, *rows):
        for row in rows:
            self.assert_answer(row, "ok")

    def assert_answer(self, row, answer):
        told = self.desk.say(row)
        self.assertEqual(told, answer, row)
        self.assertIs(told.__class__, str)

    def assert_said(self, refusal, fields, *rows):
        for row in rows:
            self.assert_refused(refusal, fields, self.desk.say, row)


class Answers(DeskCase):
    def test_show_and_forms(self):
        self.assert_answer("show d", "a(b(c) b)")
        self.assert_answer("forms d .", "book")
        self.assert_answer("forms d 0", "page")
        self.assert_answer("forms d 0.0", "line")
        self.tell("doc x p a(a b)")
        self.assert_answer("forms x .", "-")
        self.assert_answer("forms x 0", "-")
        self.tell("book q z = b; y = a(z | x); x = b(z?)", "doc x q a(b)")
        self.assert_answer("forms x 0", "z x")
        self.assert_answer("forms x .", "y")

    def test_changes(self):
        self.assert_answer("put d 2 b(c(e) c)", "2.0.0 2.0 2.1 2 .")
        self.assert_answer("show d", "a(b(c) b b(c(e) c))")
        self.assert_answer("forms d .", "-")
        self.assert_answer("cut d 2.0.0", "2.0 2 .")
        self.assert_answer("forms d .", "book")
        self.assert_answer("cut d 2.0", "2")
        self.assert_answer("rename d 2.0 c", "2.0")
        self.assert_answer("rename d . b", ".")
        self.assert_answer("show d", "b(b(c) b b(c))")
        self.assert_answer("cut d 0", ".")
        self.assert_answer("cut d 0", ".")
        self.assert_answer("put d 0 c", "0 .")
        self.assert_answer("show d", "b(c b(c))")

    def test_places_of_several_figures(self):
        self.tell("doc w p " + show_doc(fan(299)))
        self.assert_answer("rename w 298 z", "298 .")
        self.assert_answer("forms w 298", "-")
        self.assert_answer("cut w 298", ".")
        self.assert_answer("put w 12.0 c", "12.0 12")
        self.assert_answer("rename w 12.0 x", "12.0 12 .")

    def test_turn(self):
        self.tell("turn e t d p")
        self.assert_answer("show e", "a(b(c c) d b d)")
        self.assert_answer("forms e .", "-")
        self.assert_answer("forms e 0", "page")
        self.assert_answer("show d", "a(b(c) b)")
        self.tell("turner u a -> *", "doc x p a(b(c))", "turn e u x p")
        self.assert_answer("show e", "b(c)")
        self.assert_answer("forms e .", "page")
        # Several, and none: nothing changes.
        self.assert_answer("turn e u d p", "-")
        self.assert_answer("turn new u d p", "-")
        self.tell("turner v b ->")
        self.assert_answer("turn e v e p", "-")
        self.assert_answer("show e", "b(c)")
        self.assert_said(NoName, {"name": "new"}, "show new")
        # A document may be turned into itself.
        self.tell("turn d t d p")
        self.assert_answer("show d", "a(b(c c) d b d)")

    def test_turned_documents_are_kept_with_the_book_that_is_told(self):
        self.tell("book q top = a(any*); any = b(odd*); odd = c", "turner n ", "turn e n d q")
        self.assert_answer("forms e .", "top")
        self.assert_answer("forms d .", "book")
        self.assert_answer("put e 0.0 c", "0.0 0")

    def test_each(self):
        self.tell("book q two = a(page page+); page = b(line*); line = c")
        self.assert_answer("each q two p book", "yes")
        self.assert_answer("each p book q two", "no a(b)")
        self.assert_answer("each p book p book", "yes")
        self.assert_answer("each p line p page", "no c")

    def test_turns(self):
        self.assert_answer("turns t p book p book", "no a(b)")
        self.assert_answer("turns t p page p page", "no b")
        self.tell("turner u c -> c c", "turner v b -> b(*) b(c)", "turner w a -> *")
        self.assert_answer("turns u p book p book", "yes")
        self.assert_answer("turns v p book p book", "yes")
        self.assert_answer("turns v p page p page", "no b")
        self.assert_answer("turns w p book p page", "no a(b b)")

    def test_least(self):
        self.assert_answer("least p book", "a(b)")
        self.assert_answer("least p line", "c")
        self.tell("book q f = a(f); g = b(h{2}); h = c(k); k = d")
        self.assert_answer("least q f", "-")
        self.assert_answer("least q g", "b(c(d) c(d))")

    def test_chain(self):
        self.tell("turner u d -> e(*); c -> d(*)", "chain w t u", "turn e w d p")
        self.assert_answer("show e", "a(b(d d) e b e)")
        self.tell("chain t u t", "turn e t d p")
        # The second one first and the first one then, kept in the first one's stead.
        self.assert_answer("show e", "a(b(d) d b d)")

    def test_comes(self):
        self.assert_answer("comes t p book p", "c:0=line; c:1=line; b:0=page; b:1=-")
        self.assert_answer("comes t p line p", "c:0=line; c:1=line; b:0=; b:1=")
        self.tell("turner u ", "turner v b ->; a -> *", "turner w b -> x(* b(c *) *); a -> *")
        self.assert_answer("comes u p book p", "")
        self.assert_answer("comes v p book p", "")
        self.assert_answer("comes w p page p", "b:0=-; b:0.1=page; b:0.1.0=line")
        self.tell("book q y = b(z*); x = b(z z); w = a(y*); z = c", "turner v b -> b(*)")
        self.assert_answer("comes v p book q", "b:0=y|y+x")
        self.tell("turner v b -> a(*); c -> b(b)", "book q y = a(z?); z = b(z?)")
        self.assert_answer("comes v p book q", "b:0=-|y; c:0=z; c:0.0=z")

    def test_texts_with_blanks_and_without_a_sign(self):
        self.tell("book q   f   =  a ( g * ) ;  g = b  ", "doc x q a(b b)", "turner u   a -> b  ;  b ->  ", "turner v ")
        self.assert_answer("forms x .", "f")
        self.tell("turn y u x q", "turn z v x q", "turner v    ", "turn z v z q")
        self.assert_answer("show y", "b")
        self.assert_answer("show z", "a(b b)")
        self.assert_said(NoBook, {"row": 0}, "book q ", "book q  ")
        self.assert_said(NoDocument, {"spot": 0}, "doc x q ", "doc x q  a", "put x . ".replace(".", "0"), "put x 0  b")
        self.assert_said(NoDocument, {"spot": 1}, "doc x q a ", "doc x q a b", "put x 0 b ")
        self.assert_answer("show x", "a(b b)")


class NoRows(DeskCase):
    def test_what_is_no_text(self):
        for row in (None, 7, 10 ** 4000, True, b"show d", ["show", "d"], ("show", "d"), {}, Desk()):
            self.assert_said(NoRow, {}, row)

    def test_other_first_words(self):
        self.assert_said(
            NoRow, {}, "", " ", "  ", "x", "Show d", "shows d", " show d", "show\nd", "show\td", "docs d", "turnes", "ok",
            "SHOW d", "name d", "form d .", "text x")

    def test_wrong_numbers_of_words(self):
        self.assert_said(
            NoRow, {}, "book", "book q", "turner", "turner u", "doc", "doc x", "doc x p", "show", "show d d", "show d ",
            "show  d", "forms", "forms d", "forms d . .", "forms d . ", "forms  d .", "forms d  .", "put", "put d", "put d 0",
            "cut", "cut d", "cut d 0 0", "cut d 0 ", "rename d 0", "rename d 0 x y", "rename d 0 x ", "rename d  0 x",
            "turn e t d", "turn e t d p p", "turn e t d p ", "each p book p", "each p book p book p", "each p book p book ",
            "turns t p book p", "turns t p book p book p", "turns p book p book", "least p", "least p book book",
            "least p  book", "chain w t", "chain w t t t", "chain w t t ", "comes t p book", "comes t p book p book",
            "comes t p book p ")
        # The number of words comes ahead of what they are.
        self.assert_said(NoRow, {}, "show X Y", "forms no no no", "each X Y Z", "rename X 00 7 7")

    def test_words_without_signs(self):
        self.assert_said(
            NoName, {"name": ""}, "show ", "forms  .", "cut  0", "book  f = a", "turner  a ->", "doc  p a", "doc x  a",
            "put  0 c", "rename d 0 ", "turn  t d p", "turn e  d p", "turn e t  p", "turn e t d ", "each  book p book",
            "each p book  book", "turns  p book p book", "turns t  book p book", "least  book", "chain  t t", "chain w t ",
            "comes  p book p", "comes t p book ", "book  ", "doc   ")
        self.assert_said(NoForm, {"form": ""}, "least p ", "each p  p book", "each p book p ", "comes t p  p")
        self.assert_said(NoRow, {}, "forms d ", "cut d ", "put d  c", "rename d  x")

    def test_places_that_are_not_written_so(self):
        for place in ("", "..", "0.", ".0", "0..0", "00", "01", "0.00", "1.02", "12345", "0.10000", "-1", "+1", "0,1", "a",
                      "0.a", "1_0", "\u0661", "0x1", "()", "0\n", "\u00b2", "0000"):
            self.assert_said(NoRow, {}, f"forms d {place}", f"cut d {place}", f"put d {place} c", f"rename d {place} x")
        for place, told in (("9999", (9999,)), ("0.9999", (0, 9999)), ("3", (3,)), ("0.0.0.1", (0, 0, 0, 1)), ("10", (10,))):
            self.assert_said(NoPlace, {"place": told}, f"forms d {place}", f"cut d {place}", f"put d {place} c",
                             f"rename d {place} x")


class Refusals(DeskCase):
    def test_names(self):
        for word in ("A", "abcdefghi", "a1", "-", "a\n", "x\u00e9", "7"):
            self.assert_said(
                NoName, {"name": word}, f"book {word} f = a", f"turner {word} a ->", f"doc {word} p a", f"rename d 0 {word}",
                f"turn {word} t d p", f"chain {word} t t", f"show {word}", f"forms {word} .", f"cut {word} 0",
                f"put {word} 0 c", f"doc x {word} a", f"turn e {word} d p", f"turn e t {word} p", f"turn e t d {word}",
                f"least {word} f", f"comes {word} p book p")

    def test_kinds_are_kept_apart(self):
        self.assert_said(NoName, {"name": "p"}, "show p", "turn e p d p", "turn e t p p", "chain w t p", "comes p p book p")
        self.assert_said(NoName, {"name": "d"}, "doc x d a", "turn e d d p", "turn e t d d", "least d book", "chain w d t")
        self.assert_said(NoName, {"name": "t"}, "show t", "doc x t a", "turn e t t p", "least t book", "turns t t book p book")
        self.tell("book x " + PAGES, "turner x a ->", "doc x x a(b)")
        self.assert_answer("show x", "a(b)")
        self.assert_answer("turn x x x x", "-")
        self.assert_answer("turns x x book x book", "no a(b)")

    def test_word_by_word_from_the_left(self):
        for name, row in (
                ("X", "turn X no no no"), ("no", "turn e no nor not"), ("no", "turn e t no not"), ("no", "turn e t d no"),
                ("X", "doc X no ("), ("no", "doc x no ("), ("no", "forms no 00"), ("no", "put no 00 ("), ("no", "rename no 00 X"),
                ("no", "each no f not g"), ("no", "each p book no g"), ("no", "turns no not f p g"), ("no", "turns t no f p g"),
                ("no", "turns t p book no g"), ("X", "chain X no not"), ("no", "chain w no not"), ("no", "chain w t no"),
                ("no", "comes no not f nor"), ("no", "comes t no f nor"), ("no", "comes t p book no"), ("X", "book X ("),
                ("X", "turner X ("), ("X", "rename d 9 X"), ("X", "rename d . X")):
            self.assert_said(NoName, {"name": name}, row)
        for form, row in (
                ("f", "each p f no g"), ("g", "each p book p g"), ("f", "turns t p f no g"), ("g", "turns t p book p g"),
                ("f", "least p f"), ("f", "comes t p f no"), ("BOOK", "least p BOOK"), ("f", "each p f p g")):
            self.assert_said(NoForm, {"form": form}, row)
        # A place that isn't written so, ahead of a name behind it, of a text, of a place that isn't there.
        self.assert_said(NoRow, {}, "rename d 00 X", "put d 00 (", "put d 9.00 (")
        # A text ahead of the deed.
        self.assert_said(NoDocument, {"spot": 0}, "put d 9 (", "put d . (")
        self.assert_said(NoPlace, {"place": (9,)}, "put d 9 c", "forms d 9", "cut d 9", "rename d 9 x")
        self.assert_said(NoPlace, {"place": ()}, "put d . c", "cut d .")

    def test_a_form_of_the_book_ahead_of_it(self):
        self.tell("book q f = a; g = b")
        self.assert_answer("each p line q g", "no c")
        self.assert_said(NoForm, {"form": "g"}, "each p g q g", "each q g p g", "turns t q f p g")
        self.assert_said(NoForm, {"form": "line"}, "each p line q line", "comes t q line p")
        # Forms, not names.
        self.assert_said(NoForm, {"form": "a"}, "least q a")

    def test_texts(self):
        self.assert_said(NoBook, {"row": 0}, "book p f = A", "book p f = a(g)", "book p f = a(f", "book p f\n= a")
        self.assert_said(NoBook, {"row": 1}, "book p f = a; f = a", "book p f = a;", "book new f = a; g = a(x)")
        self.assert_said(NoBook, {"row": 8}, "book p " + ";" * 8)
        self.assert_said(NoDocument, {"spot": 2}, "doc d p a()", "doc new p b(", "put d 0 b()")
        self.assert_said(NoTurner, {"row": 0}, "turner t a", "turner t a -> b()", "turner new ;", "turner t a -> b  c")
        self.assert_said(NoTurner, {"row": 1}, "turner t a ->; a ->", "turner t a ->;")
        self.assert_said(NoTurner, {"row": 12}, "turner t " + ";" * 12)
        self.assert_kept_as_told()

    def assert_kept_as_told(self):
        self.assert_answer("show d", "a(b(c) b)")
        self.assert_answer("forms d .", "book")
        self.assert_answer("least p book", "a(b)")
        self.assert_answer("comes t p book p", "c:0=line; c:1=line; b:0=page; b:1=-")
        for kind in ("show new", "least new f", "chain new new t"):
            self.assert_said(NoName, {"name": "new"}, kind)

    def test_too_many(self):
        self.assert_said(TooMany, {}, "book p " + TOO_GREAT, "book new " + TOO_GREAT)
        self.assert_said(NoName, {"name": "X"}, "book X " + TOO_GREAT)
        self.tell("turner u a -> " + "a(" * 7 + "*" + ")" * 7, "turner v " + "; ".join(f"{x} ->" for x in "bcdefghijklm"))
        self.assert_said(TooMany, {}, "chain t u u", "chain new u u", "chain t v u", "chain new u v")
        self.assert_kept_as_told()

    def test_too_many_pairs(self):
        self.tell("book q " + LONG, "book r " + BROAD, "turner u ")
        self.assert_said(TooMany, {}, "each q f r f", "each r f q l", "turns u q f r f", "comes u q f r", "comes u p book r")
        self.assert_said(NoForm, {"form": "x"}, "each q x r y", "turns u q x r y", "comes u q x r")
        self.assert_said(NoForm, {"form": "y"}, "each q f r y", "turns u q f r y")
        self.assert_kept_as_told()

    def test_too_large_to_be_put_in(self):
        self.tell("doc w p " + show_doc(fan(297)))
        self.assert_answer("put w 0 b(c)", "0.0 0 .")
        self.assert_said(TooLarge, {"size": 301}, "put w 0 c")
        self.assert_said(TooLarge, {"size": 303}, "put w 0 c(d e)")
        self.assert_said(NoPlace, {"place": (299,)}, "put w 299 c(d e)")
        self.assertEqual(size_of(read_doc(self.desk.say("show w"))), 300)

    def test_too_large_to_be_turned(self):
        self.tell("turner u b -> b b b", "doc w p " + show_doc(fan(99)), "turn e u w p")
        self.assertEqual(self.desk.say("show e"), show_doc(fan(297)))
        self.tell("doc w p " + show_doc(fan(100)))
        self.assert_said(TooLarge, {"size": 301}, "turn d u w p", "turn new u w p", "turn w u w p")
        # Also where not just one document would come.
        self.tell("turner u a -> *; b -> b b b b")
        self.assert_said(TooLarge, {"size": 400}, "turn d u w p")
        self.assert_kept_as_told()

    def test_too_large_to_be_shown(self):
        self.tell("book q f = a(g{9}); g = b(h{9}); h = c(k{3}); k = d; x = a(g{9})", "turner u d -> d d", "turner v ")
        size = 1 + 9 + 81 + 243
        self.assert_said(TooLarge, {"size": size}, "least q f")
        self.assert_answer("least q h", "c(d d d)")
        self.assert_answer("each q f q x", "yes")
        self.assert_answer("each q g q f", "no " + self.desk.say("least q g"))
        self.assert_said(TooLarge, {"size": size}, "each q f q g")
        self.tell("book r y = z")
        self.assert_said(TooLarge, {"size": size}, "turns v q f r y", "turns u q f r y")
        self.assert_answer("turns u q k r y", "no d")


class Kept(DeskCase):
    def test_told_again(self):
        self.tell("doc d p b(c)")
        self.assert_answer("show d", "b(c)")
        self.tell("turner t b -> c", "turn d t d p")
        self.assert_answer("show d", "c")
        self.tell("book p other = x")
        self.assert_said(NoForm, {"form": "book"}, "least p book")
        self.assert_answer("least p other", "x")

    def test_a_document_stays_with_the_machine_of_its_book(self):
        self.tell("turner n ", "turn e n d p", "book p other = a(other*); more = b")
        for name in ("d", "e"):
            self.assert_answer(f"forms {name} .", "book")
            self.assert_answer(f"put {name} 2 b(c)", "2.0 2 .")
            self.assert_answer(f"forms {name} 2", "page")
            self.assert_answer(f"rename {name} 2 x", "2 .")
            self.assert_answer(f"forms {name} .", "-")
        self.tell("doc d p a(b)", "turn e n e p")
        self.assert_answer("forms d 0", "more")
        self.assert_answer("forms e 0.0", "-")
        self.assert_answer("forms e 1", "more")

    def test_what_is_refused_changes_nothing(self):
        self.assert_answer("rename d 0.0 c", "0.0")
        before = self.desk.say("show d")
        for row in ("put d 9 c", "cut d .", "rename d 0 X", "rename d 7 x", "put d 0 (", "doc d p (", "doc d no a",
                    "turn d no d p", "doc d p a(", "book p x", "turner t x"):
            with self.assertRaises(GraftError):
                self.desk.say(row)
            self.assert_answer("show d", before)
            self.assert_answer("forms d .", "book")
            self.assert_answer("turns t p book p book", "no a(b)")

    def test_two_desks_apart(self):
        other = Desk()
        self.assert_refused(NoName, {"name": "p"}, other.say, "least p book")
        self.assertEqual(other.say("book p f = z"), "ok")
        self.assertEqual(other.say("doc d p z(y)"), "ok")
        self.assertEqual(other.say("turner t z -> y"), "ok")
        self.assertEqual(other.say("rename d 0 x"), "0")
        self.assert_answer("show d", "a(b(c) b)")
        self.assert_answer("least p book", "a(b)")
        self.assertEqual(other.say("show d"), "z(x)")

    def test_one_turned_document_kept_twice(self):
        self.tell("turner n ", "turn e n d p", "turn x n d p")
        self.assert_answer("cut e 0", ".")
        self.assert_answer("show d", "a(b(c) b)")
        self.assert_answer("show x", "a(b(c) b)")


class Whole(DeskCase):
    def test_books_and_documents_made_by_chance(self):
        """What a desk answers is what the modules tell, and what the plain words tell."""
        chance = random.Random(131)
        told = 0
        while told < 25:
            rules = plain.sample_rules(chance, 3, 3, 3)
            if plain.book_machine(rules, 30) is None:
                continue
            told += 1
            desk = Desk()
            text = show_book(read_book("; ".join(f"{form} = {name}({plain.write(chance, pattern)})" for form, name, pattern in rules)))
            self.assertEqual(desk.say(f"book b {text}"), "ok")
            turner = plainturns.sample_turner(chance)
            self.assertEqual(desk.say(f"turner t {plainturns.show_turner(turner)}"), "ok")
            machine = machine_of(read_book(text))
            for _ in range(5):
                doc = plainturns.sample_doc(chance, chance.randint(1, 8), "ab")
                self.assertEqual(desk.say(f"doc d b {show_doc(doc)}"), "ok")
                for place, here in plain.all_places(doc):
                    forms = " ".join(plain.doc_forms(rules, here)) or "-"
                    self.assertEqual(desk.say(f"forms d {'.'.join(map(str, place)) or '.'}"), forms)
                row = plainturns.turned(turner, doc)
                self.assertEqual(desk.say("turn e t d b"), "ok" if len(row) == 1 else "-")
                if len(row) == 1:
                    self.assertEqual(desk.say("show e"), show_doc(row[0]))
                    self.assertEqual(desk.say("forms e ."), " ".join(forms_of(machine, state_of(machine, row[0]))) or "-")


if __name__ == "__main__":
    unittest.main()
