import random
import unittest

import plain
import plainturns
from graftform.booktexts import read_book
from graftform.doctexts import read_doc
from graftform.machines import machine_of, state_of
from graftform.turners import turned
from graftform.turntexts import read_turner
from graftform.ways import way_behind, way_filled, way_of
from helping import counter, fan, tower

THREE = counter(3)


def docs(*texts):
    return tuple(read_doc(text) for text in texts)


class Ways(unittest.TestCase):
    def test_written_out(self):
        # Each document of n places leads n on, by three.
        self.assertEqual(way_of(THREE, ()), (0, 1, 2, -1))
        self.assertEqual(way_of(THREE, docs("a")), (1, 2, 0, 0))
        self.assertEqual(way_of(THREE, docs("a(b)")), (2, 0, 1, 1))
        self.assertEqual(way_of(THREE, docs("a(b c)")), (0, 1, 2, 2))
        self.assertEqual(way_of(THREE, docs("a", "b")), (2, 0, 1, -2))
        self.assertEqual(way_of(THREE, docs("a", "b", "c")), (0, 1, 2, -2))
        self.assertIs(way_of(THREE, ()).__class__, tuple)

    def test_rows_one_behind_the_other(self):
        machine = machine_of(read_book("f = a(g h*); g = b; h = c(h?)"))
        g, h = docs("b"), docs("c(c)")
        self.assertNotEqual(way_behind(way_of(machine, g), way_of(machine, h)),
                            way_behind(way_of(machine, h), way_of(machine, g)))
        for one, other in ((g, h), (h, g), (g, ()), ((), h), ((), ()), (g + g, h), (g, h + h), (g + h, ()), ((), g + h)):
            self.assertEqual(way_behind(way_of(machine, one), way_of(machine, other)), way_of(machine, one + other))

    def test_ends(self):
        for end, other, whole in (
                (-1, -1, -1), (-1, 0, 0), (-1, 2, 2), (-1, -2, -2), (0, -1, 0), (2, -1, 2), (-2, -1, -2),
                (0, 0, -2), (1, 2, -2), (0, -2, -2), (-2, 0, -2), (-2, -2, -2)):
            self.assertEqual(way_behind((1, 2, 0, end), (0, 0, 1, other)), (0, 1, 0, whole))

    def test_items_written_out(self):
        for items, way, whole in (
                ("", (1, 2, 0, 0), (0, 1, 2, -1)),
                ("*", (1, 2, 0, 0), (1, 2, 0, 0)),
                ("*", (0, 1, 2, -1), (0, 1, 2, -1)),
                ("*", (1, 2, 0, -2), (1, 2, 0, -2)),
                ("* *", (1, 2, 0, 0), (2, 0, 1, -2)),
                ("* *", (0, 1, 2, -1), (0, 1, 2, -1)),
                ("b", (0, 1, 2, -2), (1, 2, 0, 0)),
                ("b *", (0, 1, 2, -1), (1, 2, 0, 0)),
                ("b(*)", (1, 2, 0, 0), (2, 0, 1, 1)),
                ("b(c(* x) *) *", (1, 2, 0, 0), (0, 1, 2, -2)),
                ("b(c) d", (2, 0, 1, 1), (0, 1, 2, -2))):
            turner = read_turner(f"a -> {items}")
            self.assertEqual(way_filled(THREE, turner[0][1], way), whole, items)

    def test_any_machines_rows_and_items(self):
        chance = random.Random(101)
        for _ in range(200):
            machine = plain.sample_machine(chance, chance.randint(1, 6), "f", "ab"[:chance.randint(0, 2)])
            row, other = (
                tuple(plainturns.sample_doc(chance, chance.randint(1, 5)) for _ in range(chance.choice([0, 1, 1, 2, 3])))
                for _ in range(2))
            self.assertEqual(way_of(machine, row), plainturns.way_of(machine, row))
            self.assertEqual(way_behind(way_of(machine, row), way_of(machine, other)), way_of(machine, row + other))
            items = plainturns.sample_items(chance, 3, 3)
            whole = plainturns.way_of(machine, plainturns.in_holes(items, row))
            self.assertEqual(way_filled(machine, items, plainturns.way_of(machine, row)), whole)

    def test_the_way_of_what_is_turned(self):
        machine = machine_of(read_book("f = a(g*); g = b(f | g)"))
        turner = read_turner("a -> b(* a) *")
        for text in ("a", "a(b)", "a(b(a) a)", "a(a a)"):
            doc = read_doc(text)
            inner = tuple(made for child in doc[1] for made in turned(turner, child))
            told = way_filled(machine, turner[0][1], way_of(machine, inner))
            self.assertEqual(told, way_of(machine, turned(turner, doc)))

    def test_high_and_long_rows(self):
        machine = counter(64)
        row = (tower(64),) * 64
        self.assertEqual(way_of(machine, row), tuple(range(64)) + (-2,))
        self.assertEqual(way_of(machine, (fan(299),))[-1], state_of(machine, fan(299)))
        items = ("*",) * 33
        for _ in range(7):
            items = (("b", items),)
        self.assertEqual(way_filled(machine, items, way_of(machine, (tower(2),)))[-1], (66 + 6) % 64)


if __name__ == "__main__":
    unittest.main()
