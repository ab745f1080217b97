"""Looms: point 4, their texts (point 10), and what any values are answered."""

import random
import unittest

from loomhold.cloths import Cloth
from loomhold.errors import BadLoom, BadText
from loomhold.looms import Loom, is_treadling
from tests.helpers import PLAIN, changed_values, is_true_int, raised, random_loom, some_values

LETTERS = "abcdefghijklmnopqrstuvwxyz"


def is_shaft(thing, shafts):
    return is_true_int(thing) and 0 <= thing < shafts


def bad_part(shafts, threading, lifts):
    """The part that BadLoom has to tell, None for a loom."""
    if not is_true_int(shafts) or not 1 <= shafts <= 99:
        return "shafts"
    if type(threading) is not tuple or threading == () or not all(is_shaft(s, shafts) for s in threading):
        return "threading"
    if type(lifts) is not tuple or not 1 <= len(lifts) <= 26:
        return "lifts"
    for number, lift in enumerate(lifts):
        if type(lift) is not tuple or not all(is_shaft(s, shafts) for s in lift) or list(lift) != sorted(set(lift)):
            return number
    return None


class LoomTest(unittest.TestCase):

    def test_attributes(self):
        loom = Loom(4, (3, 1, 3, 0), ((1, 3), (), (0, 1, 2, 3)))
        self.assertEqual((loom.shafts, loom.threading, loom.lifts), (4, (3, 1, 3, 0), ((1, 3), (), (0, 1, 2, 3))))
        self.assertEqual(loom.letters, "abc")
        self.assertEqual(loom.used, (0, 1, 3))
        self.assertEqual(len(loom), 4)
        self.assertEqual(loom, Loom(shafts=4, threading=(3, 1, 3, 0), lifts=((1, 3), (), (0, 1, 2, 3))))

    def test_greater_ones(self):
        loom = Loom(99, tuple(range(98, -1, -1)) * 3, tuple((k,) for k in range(26)))
        self.assertEqual((len(loom), loom.letters, loom.used), (297, LETTERS, tuple(range(99))))
        self.assertEqual(Loom.read(str(loom)), loom)
        self.assertEqual(loom.lift_of("z"), (25,))
        self.assertTrue(is_treadling(loom, LETTERS * 100))
        self.assertEqual(loom.threaded((0,)).threading, (0,))
        self.assertEqual(loom.with_lift("y", ()).lifts[23:], ((23,), (), (25,)))

    def test_lifts(self):
        self.assertEqual(PLAIN.lift_of("b"), (1,))
        self.assertEqual(PLAIN.lift_of(letter="a"), (0,))
        self.assertEqual(PLAIN.with_lift("a", (0, 1)), Loom(2, (0, 1, 0, 1), ((0, 1), (1,))))
        self.assertEqual(PLAIN.with_lift(letter="b", lift=()), Loom(2, (0, 1, 0, 1), ((0,), ())))
        self.assertEqual(PLAIN.threaded(threading=(1,)), Loom(2, (1,), ((0,), (1,))))
        self.assertEqual(PLAIN, Loom(2, (0, 1, 0, 1), ((0,), (1,))))

    def test_bad_parts_in_order(self):
        bad = [(0, (), (), "shafts"), (100, (0,), ((),), "shafts"), (True, (0,), ((),), "shafts"),
               ("2", (0,), ((),), "shafts"), (2, (), (), "threading"), (2, [0], ((),), "threading"),
               (2, (2,), ((),), "threading"), (2, (0, True), ((),), "threading"), (2, (-1,), ((),), "threading"),
               (2, (0,), (), "lifts"), (2, (0,), [()], "lifts"), (2, (0,), ((),) * 27, "lifts"),
               (2, (0,), (0,), 0), (2, (0,), ((), (1, 0)), 1), (2, (0,), ((), (0, 0), (5,)), 1),
               (2, (0,), ((), (), (2,)), 2), (2, (0,), ((True,),), 0), (2, (0,), ([0],), 0), (2, (0,), ((0,), None), 1),
               (2, (0,), ((False, 1),), 0), (2, (0,), ("",), 0)]
        for shafts, threading, lifts, part in bad:
            error = raised(self, BadLoom, Loom, shafts, threading, lifts)
            self.assertEqual(error.part, part)
            self.assertIs(type(error.part), type(part))

    def test_any_values(self):
        values = some_values(1, 300)
        rng = random.Random(2)
        right = [1, 2, 99, (0,), (1, 0), (0, 1), ((),), ((0,), (1,)), ((0, 1), ())]
        for _ in range(4000):
            parts = [rng.choice(right) if rng.random() < 0.6 else rng.choice(values) for _ in range(3)]
            part = bad_part(*parts)
            if part is None:
                self.assertEqual(Loom(*parts).lifts, parts[2])
            else:
                self.assertEqual(raised(self, BadLoom, Loom, *parts).part, part)

    def test_changed_parts(self):
        rng = random.Random(8)
        for seed in range(60):
            loom = random_loom(rng)
            for parts in changed_values(seed, [loom.shafts, loom.threading, loom.lifts], 60):
                if type(parts) is not list or len(parts) != 3:
                    continue
                part = bad_part(*parts)
                if part is None:
                    self.assertEqual(Loom(*parts).threading, parts[1])
                else:
                    self.assertEqual(raised(self, BadLoom, Loom, *parts).part, part)

    def test_equal(self):
        self.assertTrue(PLAIN == Loom(2, (0, 1, 0, 1), ((0,), (1,))))
        for other in (Loom(3, (0, 1, 0, 1), ((0,), (1,))), Loom(2, (0, 1, 0), ((0,), (1,))), Loom(2, (0, 1, 0, 1), ((0,),)),
                      Loom(2, (0, 1, 0, 1), ((1,), (0,)))):
            self.assertFalse(PLAIN == other)
            self.assertTrue(PLAIN != other)
        same = [value for value in some_values(3, 200) if PLAIN == value or value == PLAIN]
        self.assertTrue(all(isinstance(value, Loom) and value.threading == (0, 1, 0, 1) for value in same))
        self.assertFalse(PLAIN == Cloth(("x",)))
        self.assertFalse(PLAIN == (2, (0, 1, 0, 1), ((0,), (1,))))

    def test_treadlings(self):
        for word, told in (("", True), ("ab", True), ("abba" * 900, True), ("c", False), ("A", False), ("a\n", False)):
            self.assertIs(is_treadling(PLAIN, word), told)
        for value in some_values(4, 200):
            told = isinstance(value, str) and set(value) <= set("ab")
            self.assertIs(is_treadling(PLAIN, thing=value), told)


class LoomTextTest(unittest.TestCase):

    def test_examples(self):
        self.assertEqual(str(PLAIN), "shafts 2\nthreading 0 1 0 1\nlift a 0\nlift b 1")
        self.assertEqual(str(Loom(1, (0,), ((),))), "shafts 1\nthreading 0\nlift a")

    def test_read_back(self):
        rng = random.Random(5)
        for _ in range(300):
            loom = random_loom(rng, 12, 12, 26)
            self.assertEqual(Loom.read(str(loom)), loom)
            self.assertEqual(str(Loom.read(text=str(loom))), str(loom))

    def test_bad_lines(self):
        full = "\n".join(["shafts 1", "threading 0", *["lift " + letter for letter in LETTERS]])
        self.assertEqual(len(Loom.read(full).lifts), 26)
        bad = [("", 1), ("\n", 1), ("shafts 2", 2), ("shafts 2\n", 2), ("shafts 2\nthreading 0", 3), ("shafts 0", 1),
               ("shafts 2\nthreading 0\n", 3), ("shafts 2\nthreading 0\nlift a\n", 4), ("shafts 2\n\nthreading 0", 2),
               ("shafts 100\nthreading 0\nlift a", 1), ("shafts 02\nthreading 0\nlift a", 1), ("shafts\nthreading", 1),
               ("shafts 2 2\nthreading 0\nlift a", 1), (" shafts 2", 1), ("shafts  2", 1), ("shafts 2 ", 1),
               ("shafts +2", 1), ("shafts -2", 1), ("shafts 1_0", 1), ("Shafts 2", 1), ("shafts " + "9" * 3900, 1),
               ("shafts 2\nthreading", 2), ("shafts 2\nthreading 2\nlift a", 2), ("shafts 2\nthreading 00\nlift a", 2),
               ("shafts 2\nthreading 0 \nlift a", 2), ("shafts 2\nthreading 0  1\nlift a", 2), ("shafts 2\nlift a", 2),
               ("shafts 2\nthreading 0\nthreading 0\nlift a", 3), ("shafts 2\nshafts 2\nthreading 0\nlift a", 2),
               ("shafts 2\nthreading 0\nlift", 3), ("shafts 2\nthreading 0\nlift b", 3),
               ("shafts 2\nthreading 0\nlift a\nlift a", 4), ("shafts 2\nthreading 0\nlift a\nlift c", 4),
               ("shafts 2\nthreading 0\nlift a 1 0", 3), ("shafts 2\nthreading 0\nlift a 0 0", 3),
               ("shafts 2\nthreading 0\nlift a 2", 3), ("shafts 2\nthreading 0\nlift a\nlift b 0 ", 4),
               ("shafts 2\nthreading 0\nlift a \nlift b", 3), ("shafts 2\nthreading 0\nlift a -1", 3),
               ("shafts 2\nthreading 0\nlift a\nend", 4), (full + "\nlift", 29), (full + "\nlift {", 29),
               (full + "\nlift a", 29), (full + "\n", 29), ("shafts 1\nthreading " + "0" * 3000, 2)]
        for text, line in bad:
            self.assertEqual(raised(self, BadText, Loom.read, text).line, line, text[:80])

    def test_any_values(self):
        for value in some_values(6, 300):
            error = raised(self, BadText, Loom.read, value)
            self.assertIs(type(error.line), int)
            if not isinstance(value, str):
                self.assertEqual(error.line, 0)
            else:
                self.assertGreater(error.line, 0)

    def test_changed_texts(self):
        rng = random.Random(7)
        for _ in range(2000):
            text = str(random_loom(rng, 12, 4, 4))
            at = rng.randrange(len(text) + 1)
            other = text[:at] + rng.choice(["", " ", "\n", "0", "a", "lift", "-"]) + text[at + rng.randrange(2):]
            try:
                self.assertEqual(str(Loom.read(other)), other)
            except BadText as error:
                lines = other.split("\n")
                self.assertTrue(1 <= error.line <= max(len(lines) + 1, 3))
                self.assertGreaterEqual(error.line, other[:at].count("\n") + (1 if at else 0))


if __name__ == "__main__":
    unittest.main()
