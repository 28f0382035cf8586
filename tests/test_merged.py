import random
import unittest

import plain
import plainturns
from graftform.booktexts import read_book
from graftform.doctexts import read_doc
from graftform.machines import forms_of, machine_of, state_of
from graftform.merged import alike, apart, fewest
from helping import counter, small_docs

DOCS = [doc for size in range(1, 5) for doc in small_docs(size, ("a", "b", "x"))]
# Documents come to the states 0 and 1 alone. With such partners 2 steps as 0 does and 3 as 1 does; only with
# partners without documents, 2 and 3, would they be told apart.
UNREACHED = (("f",), ("a",), (0, 1), (
    (0, 0, 0, 0), (1, 1, 1, 1), (0, 0, 1, 1), (1, 1, 0, 0)), (1, 0, 1, 0))


def sample_machines(seed, many):
    chance = random.Random(seed)
    for _ in range(many):
        forms = "fg"[:chance.randint(0, 2)]
        names = "ab"[:chance.randint(0, 2)]
        machine = plain.sample_machine(chance, chance.randint(1, 7), forms, names)
        if chance.random() < 0.5:
            # Few targets and few marks, so that more states are alike and fewer come.
            few = chance.randint(1, len(machine[4]))
            steps = tuple(tuple(to % few for to in row) for row in machine[3])
            starts = tuple(start % few for start in machine[2])
            marks = tuple(chance.choice([0, 0, mark]) for mark in machine[4])
            machine = (machine[0], machine[1], starts, steps, marks)
        yield machine


class Alike(unittest.TestCase):
    def test_written_out(self):
        # Leaves, and counts of places beyond the first by two and by four: 0 and 2, 1 and 3 are alike by two.
        forms, names, starts, steps, marks = counter(4)
        by_two = (forms, names, starts, steps, (1, 0, 1, 0))
        self.assertEqual(alike(by_two), (0, 1, 0, 1))
        self.assertEqual(alike(counter(4)), (0, 1, 2, 3))
        self.assertEqual(alike((forms, names, starts, steps, (1, 1, 1, 1))), (0, 0, 0, 0))
        self.assertIs(alike(by_two).__class__, tuple)

    def test_partners_without_documents_tell_nothing_apart(self):
        self.assertEqual(alike(UNREACHED), (0, 1, 0, 1))
        self.assertIsNone(apart(UNREACHED, 0, 2))
        self.assertIsNone(apart(UNREACHED, 3, 1))
        self.assertEqual(apart(UNREACHED, 2, 3), ())

    def test_states_without_documents_are_told_of_too(self):
        # State 2 has no document, and differs from 0 by a step with the partner 1 alone, on side 1.
        machine = (("f",), ("a",), (0, 1), ((0, 0, 0), (0, 1, 1), (0, 0, 0)), (1, 0, 1))
        self.assertEqual(alike(machine), (0, 1, 2))
        self.assertEqual(plainturns.led(machine, 0, [(1, 1)]), 0)
        self.assertEqual(plainturns.led(machine, 2, [(1, 1)]), 1)
        self.assert_way(machine, 0, 2)

    def assert_way(self, machine, one, other, come=None):
        way = apart(machine, one, other)
        self.assertIs(way.__class__, tuple)
        come = come or plainturns.reached(machine)
        for step in way:
            self.assertIs(step.__class__, tuple)
            self.assertIn(step[0], (0, 1))
            self.assertIn(step[1], come)
            self.assertEqual(len(step), 2)
        led = [plainturns.led(machine, state, way) for state in (one, other)]
        self.assertNotEqual(machine[4][led[0]], machine[4][led[1]])

    def test_any_tables(self):
        found = {True: 0, False: 0}
        for machine in sample_machines(71, 250):
            told = plainturns.pairs_apart(machine)
            states = range(len(machine[4]))
            classes = alike(machine)
            for one in states:
                self.assertEqual(classes[one], min(state for state in states if (one, state) not in told))
                for other in states:
                    found[(one, other) in told] += 1
                    if (one, other) in told:
                        self.assert_way(machine, one, other)
                    else:
                        self.assertIsNone(apart(machine, one, other))
        self.assertGreater(found[True], 1000)
        self.assertGreater(found[False], 1000)

    def test_both_sides_are_needed(self):
        # One more child in the first place leads on; as a child, the states differ in one partner alone.
        sides = set()
        for machine in sample_machines(72, 60):
            for one in range(len(machine[4])):
                sides |= {side for side, _ in apart(machine, 0, one) or ()}
        self.assertEqual(sides, {0, 1})

    def test_64_states_told_apart_by_long_ways(self):
        # A child more leads one state on, and only the last one has the form.
        steps = tuple(tuple(min(p + 1, 63) for _ in range(64)) for p in range(64))
        machine = (("f",), (), (0,), steps, (0,) * 63 + (1,))
        self.assertEqual(alike(machine), tuple(range(64)))
        for one in range(64):
            for other in range(64):
                if one != other:
                    self.assert_way(machine, one, other, range(64))
                else:
                    self.assertIsNone(apart(machine, one, other))
        self.assertEqual(alike(counter(64)), tuple(range(64)))

    def test_64_alike_states(self):
        machine = counter(64, "fg")[:4] + ((3,) * 64,)
        self.assertEqual(alike(machine), (0,) * 64)
        for one in range(64):
            self.assertIsNone(apart(machine, one, 63))


class Fewest(unittest.TestCase):
    def test_written_out(self):
        # By the book, b with one f below it and b without are told apart by patterns, not by forms.
        machine = machine_of(read_book("f = a(f*); g = b(f* | f* f)"))
        told = fewest(machine)
        self.assertEqual(told, (
            ("f", "g"), ("a", "b"), (0, 1, 2),
            ((0, 2, 2), (1, 2, 2), (2, 2, 2)), (1, 2, 0)))

    def test_names_that_tell_nothing(self):
        # The form c can't be had: its documents are as those of any other name.
        machine = machine_of(read_book("f = a; g = c(g)"))
        told = fewest(machine)
        self.assertEqual(machine[1], ("a", "c"))
        self.assertEqual(told[1], ("a",))
        self.assertEqual(told, (("f", "g"), ("a",), (0, 1), ((1, 1), (1, 1)), (1, 0)))

    def test_names_that_are_alike_to_one_another_stay(self):
        # a and b are alike, but not as other names are.
        machine = (("f",), ("a", "b"), (0, 1, 2), ((0, 0, 0), (1, 1, 1), (2, 2, 2)), (1, 1, 0))
        self.assertEqual(fewest(machine), (("f",), ("a", "b"), (0, 0, 1), ((0, 0), (1, 1)), (1, 0)))

    def test_classes_without_documents_are_left_out(self):
        machine = (("f",), (), (1,), ((0, 0), (1, 1)), (1, 0))
        self.assertEqual(fewest(machine), (("f",), (), (0,), ((0,),), (0,)))

    def test_steps_are_those_of_states_with_documents(self):
        self.assertEqual(fewest(UNREACHED), (("f",), ("a",), (0, 1), ((0, 0), (1, 1)), (1, 0)))
        # Here the least state of each class has no document, and steps elsewhere with such.
        turned = (("f",), ("a",), (2, 3), ((1, 1, 0, 0), (0, 0, 1, 1), (2, 2, 2, 2), (3, 3, 3, 3)), (1, 0, 1, 0))
        self.assertEqual(alike(turned), (0, 1, 0, 1))
        self.assertEqual(fewest(turned), fewest(UNREACHED))

    def test_without_forms_one_state_is_enough(self):
        for machine in (((),) + counter(5)[1:4] + ((0,) * 5,), ((), ("a", "b"), (0, 1, 1), ((0, 1), (1, 0)), (0, 0))):
            self.assertEqual(fewest(machine), ((), (), (0,), ((0,),), (0,)))

    def test_any_tables(self):
        fewer = 0
        for machine in sample_machines(73, 200):
            told = fewest(machine)
            self.assertEqual(told, plainturns.fewest(machine))
            self.assertEqual(fewest(told), told)
            self.assertEqual([part.__class__ for part in told], [tuple] * 5)
            fewer += len(told[4]) < len(machine[4])
            for doc in random.Random(7).sample(DOCS, 25):
                self.assertEqual(forms_of(told, state_of(told, doc)), forms_of(machine, state_of(machine, doc)))
        self.assertGreater(fewer, 50)

    def test_machines_that_tell_the_same(self):
        chance = random.Random(74)
        for machine in sample_machines(75, 120):
            other = plainturns.widened(chance, machine)
            self.assertNotEqual(machine, other)
            self.assertEqual(fewest(other), fewest(machine))

    def test_books_that_tell_the_same(self):
        for one, other in (
                ("f = a(g | h); g = b; h = c(h*)", "f = a(h | g); g = b( | ); h = c(h? h*)"),
                ("f = a(f f* | )", "f = a(f*)"),
                ("f = a((g g)+ | g (g g)*); g = b", "f = a(g{1,} g*); g = b"),
                ("f = a(g & h*); g = b; h = c", "f = a(h* (g | g h+)); g = b; h = c")):
            one, other = machine_of(read_book(one)), machine_of(read_book(other))
            self.assertNotEqual(one, other)
            self.assertEqual(fewest(one), fewest(other))

    def test_64_states(self):
        self.assertEqual(fewest(counter(64)), counter(64))
        machine = counter(64)[:4] + (tuple(int(k % 4 == 0) for k in range(64)),)
        self.assertEqual(fewest(machine), counter(4))
        self.assertEqual(state_of(fewest(machine), read_doc("a(b c d e)")), 0)

    def test_twenty_forms_and_names(self):
        chance = random.Random(76)
        letters = "abcdefghijklmnopqrst"
        machine = plain.sample_machine(chance, 6, tuple("f" + letter for letter in letters), letters)
        self.assertEqual(fewest(machine), plainturns.fewest(machine))


if __name__ == "__main__":
    unittest.main()
