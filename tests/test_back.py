import random
import unittest

import plain
import plainturns
from graftform.back import back_states, comes, drawn_back, turns
from graftform.booktexts import read_book
from graftform.docs import size_of
from graftform.doctexts import read_doc
from graftform.errors import NoForm, TooMany
from graftform.machines import forms_of, machine_of, state_of
from graftform.papers import each_is
from graftform.prices import grown, made_size
from graftform.turntexts import read_turner
from graftform.ways import way_of
from helping import RefusalCase, counter, small_docs

DOCS = [doc for size in range(1, 5) for doc in small_docs(size, ("a", "b", "x"))]
PAGES = machine_of(read_book("book = a(page+); page = b(line*); line = c"))
# Drawn back through the turner beside it, the first has 64 states, the second, through the one without rules, 65.
AT_64 = (("f",), ("a",), (4, 2), (
    (1, 0, 1, 2, 4), (3, 2, 4, 3, 0), (4, 2, 3, 2, 0), (4, 4, 2, 2, 0), (4, 4, 4, 0, 4)), (1, 0, 0, 1, 0))
THROUGH = (("a", ("*",)),)
AT_65 = (("f",), (), (3,), ((2, 3, 0, 3), (3, 0, 0, 3), (2, 1, 0, 0), (2, 1, 2, 1)), (1, 1, 0, 1))


def sample_pairs(seed, many):
    """Turners and machines to draw back, the machine small."""
    chance = random.Random(seed)
    for _ in range(many):
        machine = plain.sample_machine(chance, chance.randint(1, 3), "fg"[:chance.randint(0, 2)], "ab"[:chance.randint(0, 2)])
        yield chance, plainturns.sample_turner(chance, most=2, depth=2), machine


def slow_machine(chance, many, forms):
    """A machine in which most steps stay where they are: such have fewer ways. No two marks are the same."""
    _, names, starts, steps, _ = plain.sample_machine(chance, many, forms, "ab"[:chance.randint(0, 2)])
    steps = tuple(tuple(chance.choice([p, p, p, q, to]) for q, to in enumerate(row)) for p, row in enumerate(steps))
    marks = tuple(chance.sample(range(2 ** len(forms)), many)) if many <= 2 ** len(forms) else (0, 1, 1)
    return tuple(forms), names, starts, steps, marks


class Drawn(RefusalCase):
    def test_written_out(self):
        machine = (("f",), ("a",), (0, 1), ((0, 1), (1, 1)), (1, 0))
        turner = read_turner("b -> *")
        # The names are a and b and all others, the ways those of no document, of a, of others, of several.
        none, one, odd, more, odds = (0, 1, -1), (0, 1, 0), (1, 1, 1), (0, 1, -2), (1, 1, -2)
        pairs = back_states(turner, machine)
        self.assertEqual(pairs[:3], ((0, none), (1, none), (2, none)))
        self.assertEqual(set(pairs), {(number, way) for number in range(3) for way in (none, one, odd, more, odds)})
        self.assertIs(pairs.__class__, tuple)
        forms, names, starts, steps, marks = drawn_back(turner, machine)
        self.assertEqual((forms, names, starts), (("f",), ("a", "b"), (0, 1, 2)))
        for pair, mark in zip(pairs, marks):
            # Of a's there is one, which has f where none odd is below it; b is what is in it; others have none.
            has = pair[0] == 0 and pair[1] in (none, one, more) or pair == (1, one)
            self.assertEqual(mark, int(has), pair)

    def test_names(self):
        machine = machine_of(read_book("f = c; g = a"))
        told = drawn_back(read_turner("d -> *; b ->; c -> c"), machine)
        self.assertEqual(told[1], ("a", "b", "c", "d"))
        self.assertEqual(told[0], ("f", "g"))
        self.assertEqual(drawn_back((), machine)[1], ("a", "c"))
        self.assertEqual(drawn_back((), counter(1))[1], ())

    def test_any_tables(self):
        drawn = 0
        for _, turner, machine in sample_pairs(111, 150):
            expected = plainturns.back(turner, machine)
            if expected is None:
                self.assert_refused(TooMany, {}, drawn_back, turner, machine)
                self.assert_refused(TooMany, {}, back_states, turner, machine)
                continue
            drawn += 1
            self.assertEqual(back_states(turner, machine), expected[0])
            self.assertEqual(drawn_back(turner, machine), expected[1])
        self.assertGreater(drawn, 80)

    def test_forms_are_those_of_turned_documents(self):
        seen = set()
        for chance, turner, machine in sample_pairs(112, 150):
            if plainturns.back(turner, machine) is None:
                continue
            told, pairs = drawn_back(turner, machine), back_states(turner, machine)
            for doc in chance.sample(DOCS, 25):
                row = plainturns.turned(turner, doc)
                forms = forms_of(machine, state_of(machine, row[0])) if len(row) == 1 else []
                self.assertEqual(forms_of(told, state_of(told, doc)), forms)
                number = told[1].index(doc[0]) if doc[0] in told[1] else len(told[1])
                inner = tuple(made for child in doc[1] for made in plainturns.turned(turner, child))
                self.assertEqual(pairs[state_of(told, doc)], (number, way_of(machine, inner)))
                seen.add((min(len(row), 3), bool(forms)))
        self.assertEqual(seen, {(0, False), (1, False), (1, True), (2, False), (3, False)})

    def test_states_without_documents(self):
        # State 1 has no document; it is in the ways all the same.
        machine = (("f",), (), (0,), ((0, 1), (1, 0)), (1, 0))
        self.assertEqual(back_states((), machine), ((0, (0, 1, -1)), (0, (0, 1, 0)), (0, (0, 1, -2))))

    def test_64_states_and_more(self):
        self.assertEqual(len(plainturns.back(THROUGH, AT_64)[0]), 64)
        self.assertEqual(drawn_back(THROUGH, AT_64), plainturns.back(THROUGH, AT_64)[1])
        self.assertEqual(back_states(THROUGH, AT_64), plainturns.back(THROUGH, AT_64)[0])
        self.assertEqual(len(plainturns.back((), AT_65, 65)[0]), 65)
        self.assert_refused(TooMany, {}, drawn_back, (), AT_65)
        self.assert_refused(TooMany, {}, back_states, (), AT_65)
        self.assert_refused(TooMany, {}, drawn_back, (), counter(64))

    def test_great_turners(self):
        items = ("*",) * 33
        for _ in range(7):
            items = (("b", items),)
        turner = tuple((name, items) for name in "abcdefghijkl")
        # All rules make one document of it; of its names there are thirteen numbers.
        told = drawn_back(turner, counter(1))
        self.assertEqual(len(told[4]), 39)
        self.assertEqual(set(told[4]), {1})
        self.assertEqual(len(told[1]), 12)


class Turns(RefusalCase):
    def test_written_out(self):
        for text, form, goal, doc in (
                ("", "book", "book", None),
                ("c -> c c", "book", "book", None),
                ("c ->", "book", "book", None),
                ("b ->", "book", "book", "a(b)"),
                ("b -> b(*) b", "book", "book", None),
                ("b -> b b(b)", "book", "book", "a(b)"),
                ("a -> b; b -> a(*)", "book", "page", None),
                ("a -> *", "book", "page", "a(b b)"),
                ("a -> b(*); b -> *", "book", "page", None),
                ("c -> d", "page", "page", "b(c)"),
                ("c -> d", "page", "line", "b"),
                ("c -> b", "line", "page", None),
                ("c -> c c", "line", "line", "c"),
                ("c ->", "line", "line", "c")):
            turner = read_turner(text)
            makings, paper = turns(turner, PAGES, form, PAGES, goal)
            self.assertEqual(makings and grown(makings), doc and read_doc(doc), text)
            self.assertEqual(paper, each_is(PAGES, form, drawn_back(turner, PAGES), goal)[1])
            self.assertIs(paper.__class__, list)

    def test_any_machines(self):
        yes = no = 0
        for chance, turner, other in sample_pairs(113, 400):
            one = plain.sample_machine(chance, chance.randint(1, 3), "hi", "ab"[:chance.randint(0, 2)])
            if not other[0]:
                self.assert_refused(NoForm, {"form": "f"}, turns, turner, one, "h", other, "f")
                continue
            form, goal = chance.choice("hi"), chance.choice(other[0])
            drawn = plainturns.back(turner, other)
            told = drawn and plainturns.couples(one, form, drawn[1])
            if told is None:
                self.assert_refused(TooMany, {}, turns, turner, one, form, other, goal)
                continue
            makings, paper = turns(turner, one, form, other, goal)
            sizes = plain.least_sizes(plain.pair_starts(one, drawn[1])[1], plain.pair_step(one, drawn[1]))
            self.assertEqual(paper, sorted((p, q, size) for (p, q), size in sizes.items()))
            astray = [size for (p, q), size in sizes.items()
                      if plain.in_form(one, p, form) and not plain.in_form(drawn[1], q, goal)]
            for doc in chance.sample(DOCS, 25):
                if plain.has_form(one, doc, form) and not plainturns.is_turned(turner, doc, other, goal):
                    self.assertLessEqual(min(astray), size_of(doc))
            if makings is None:
                self.assertEqual(astray, [])
                yes += 1
                continue
            self.assertEqual(made_size(makings), min(astray))
            states = list(zip(plain.made_states(one, makings), plain.made_states(drawn[1], makings)))
            self.assertEqual(len(states), len(set(states)))
            doc = grown(makings)
            self.assertTrue(plain.has_form(one, doc, form))
            self.assertFalse(plainturns.is_turned(turner, doc, other, goal))
            no += 1
        self.assertGreater(yes, 10)
        self.assertGreater(no, 50)

    def test_no_smaller_document(self):
        """Held against all small documents."""
        later = 0
        for chance, turner, other in sample_pairs(114, 100):
            one = plain.sample_machine(chance, 3, "h", "ab")
            one = one[:4] + (tuple(int(chance.random() < 0.3) for _ in one[4]),)
            if not other[0] or plainturns.back(turner, other) is None:
                continue
            if plainturns.couples(one, "h", drawn_back(turner, other)) is None:
                continue
            makings = turns(turner, one, "h", other, "f")[0]
            size = 9 if makings is None else made_size(makings)
            astray = [doc for doc in DOCS if plain.has_form(one, doc, "h") and not plainturns.is_turned(turner, doc, other, "f")]
            self.assertEqual(min(map(size_of, astray), default=9), size if size <= 4 else 9)
            later += 1 < size < 9
        self.assertGreater(later, 5)

    def test_refused_forms_come_first(self):
        for turner, other in (((), AT_65), ((), PAGES)):
            goal = other[0][0]
            self.assert_refused(NoForm, {"form": "x"}, turns, turner, PAGES, "x", other, "y")
            self.assert_refused(NoForm, {"form": "y"}, turns, turner, PAGES, "book", other, "y")
            self.assert_refused(NoForm, {"form": "x"}, turns, turner, PAGES, "x", other, goal)

    def test_too_many(self):
        # Too many states drawn back; then too many pairs, where the drawn back ones are 21, by 7 and by 4.
        self.assert_refused(TooMany, {}, turns, (), PAGES, "book", AT_65, "f")
        self.assertEqual(len(drawn_back((), counter(10))[4]), 21)
        self.assert_refused(TooMany, {}, turns, (), counter(7), "f", counter(10), "f")
        self.assert_refused(NoForm, {"form": "x"}, turns, (), counter(7), "f", counter(10), "x")
        self.assert_refused(NoForm, {"form": "x"}, turns, (), counter(7), "x", counter(10), "f")
        self.assertEqual(len(turns(THROUGH, counter(1), "f", AT_64, "f")[1]), 64)
        self.assertEqual(len(turns((), counter(10), "f", counter(10), "f")[1]), 21)


class Comes(RefusalCase):
    def test_written_out(self):
        turner = read_turner("b -> b(* c) * x; c -> c c")
        self.assertEqual(comes(turner, PAGES, "book", PAGES), [
            ("b", (0,), [("page",)]), ("b", (0, 1), [("line",)]), ("b", (2,), [()]),
            ("c", (0,), [("line",)]), ("c", (1,), [("line",)])])
        # No b stands in a line.
        self.assertEqual(comes(turner, PAGES, "line", PAGES), [
            ("b", (0,), []), ("b", (0, 1), []), ("b", (2,), []), ("c", (0,), [("line",)]), ("c", (1,), [("line",)])])
        self.assertEqual(comes((), PAGES, "book", PAGES), [])
        self.assertEqual(comes(read_turner("a ->; b -> *"), PAGES, "book", PAGES), [])

    def test_several_sets(self):
        book = "f = a(f*); g = a(f g | g | f f); h = b"
        machine = machine_of(read_book(book))
        # Of the leaf comes a, of others what they are; b has h and no other form.
        told = comes(read_turner("a -> * a(*) b(a)"), machine, "f", machine)
        self.assertEqual([(name, place) for name, place, _ in told], [("a", (1,)), ("a", (2,)), ("a", (2, 0))])
        self.assertEqual(told[2][2], [("f",)])
        self.assertEqual(told[1][2], [()])
        self.assertEqual(told[0][2], sorted(told[0][2]))
        self.assertIn(("f",), told[0][2])
        forms = comes(read_turner("a -> a(*)"), machine, "f", machine)
        self.assertEqual(forms, [("a", (0,), [("f",), ("f", "g")])])

    def test_holes_are_counted_and_each_comes_ahead_of_those_within(self):
        turner = read_turner("b ->; a -> * b(* c(*) d) e; c -> *")
        self.assertEqual([(name, place) for name, place, _ in comes(turner, PAGES, "book", PAGES)], [
            ("a", (1,)), ("a", (1, 1)), ("a", (1, 2)), ("a", (2,))])

    def test_what_is_left_out_comes_too(self):
        # The pages are left out of the book; what would come of them is told.
        turner = read_turner("a -> a; b -> b(*) c; c -> d")
        self.assertEqual(comes(turner, PAGES, "book", PAGES), [
            ("a", (0,), [()]), ("b", (0,), [(), ("page",)]), ("b", (1,), [("line",)]), ("c", (0,), [()])])

    def test_only_documents_of_the_form_are_turned(self):
        # c with a line below stands in no book.
        machine = machine_of(read_book("f = a(g); g = b; h = a(h | g)"))
        turner = read_turner("a -> b(*)")
        other = machine_of(read_book("k = b(l); l = b; m = b(k); n = b(m)"))
        self.assertEqual(comes(turner, machine, "f", other), [("a", (0,), [("k",)])])
        self.assertEqual(comes(turner, machine, "h", other), [("a", (0,), [(), ("k",), ("m",), ("n",)])])
        self.assertEqual(comes(turner, machine, "g", other), [("a", (0,), [])])

    def test_any_machines(self):
        taken = several = 0
        chance = random.Random(115)
        for _ in range(300):
            one = slow_machine(chance, chance.randint(1, 3), "h")
            other = slow_machine(chance, chance.randint(2, 3), "fg")
            turner = plainturns.sample_turner(chance, "ab", most=2, depth=chance.randint(1, 2))
            turner += tuple((name, (("b", ("*",)),)) for name in "ab" if name not in dict(turner))
            expected = plainturns.comes(turner, one, "h", other)
            if expected is None:
                self.assert_refused(TooMany, {}, comes, turner, one, "h", other)
                continue
            told = comes(turner, one, "h", other)
            self.assertEqual(told, expected)
            taken += 1
            several += any(len(sets) > 1 for _, _, sets in told)
            by_item = {(name, place): sets for name, place, sets in told}
            for doc in chance.sample(DOCS, 25):
                if plain.has_form(one, doc, "h"):
                    self.assert_comes(by_item, turner, doc, other)
        self.assertGreater(taken, 100)
        self.assertGreater(several, 20)

    def assert_comes(self, by_item, turner, doc, other):
        """What comes of the items, where this document is turned, is told."""
        rules = dict(turner)
        for _, here in plain.all_places(doc):
            inner = [made for child in here[1] for made in plainturns.turned(turner, child)]
            for place, item in plainturns.item_places(rules.get(here[0], ())):
                made = plainturns.in_holes((item,), inner)[0]
                self.assertIn(tuple(forms_of(other, state_of(other, made))), by_item[here[0], place])

    def test_refused(self):
        self.assert_refused(NoForm, {"form": "x"}, comes, (), PAGES, "x", AT_65)
        self.assert_refused(NoForm, {"form": "f"}, comes, (), PAGES, "f", PAGES)
        self.assert_refused(TooMany, {}, comes, (), PAGES, "book", AT_65)
        self.assert_refused(TooMany, {}, comes, (), counter(7), "f", counter(10))
        self.assert_refused(NoForm, {"form": "x"}, comes, (), counter(7), "x", counter(10))

    def test_lists_are_the_askers_own(self):
        turner = read_turner("b -> b(* c); c -> c c")
        told = comes(turner, PAGES, "book", PAGES)
        told[0][2].append("x")
        told.pop()
        self.assertEqual(comes(turner, PAGES, "book", PAGES)[0], ("b", (0,), [("page",)]))
        makings, paper = turns(turner, PAGES, "book", PAGES, "book")
        paper.clear()
        self.assertEqual(turns(turner, PAGES, "book", PAGES, "book")[0], makings)
        self.assertTrue(turns(turner, PAGES, "book", PAGES, "book")[1])

    def test_great_turners(self):
        items = ("*",) * 33
        for _ in range(7):
            items = (("b", items),)
        turner = tuple((name, items) for name in "abcdefghijkl")
        told = comes(turner, counter(1), "f", counter(1, "g"))
        self.assertEqual(len(told), 84)
        self.assertEqual({tuple(sets) for _, _, sets in told}, {(("g",),)})


if __name__ == "__main__":
    unittest.main()
