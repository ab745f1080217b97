"""Floats of charts and rolls, weft floats: points 26 to 30."""

import random
import time
import unittest

from loomhold.charts import Chart
from loomhold.elements import element_of
from loomhold.errors import BadRoll
from loomhold.floats import (
    first_longest, floating_treadling, greatest_float, greatest_weft_float, keeps_within, side_at, weft_float, weft_float_of_roll)
from loomhold.looms import Loom
from loomhold.rolls import element_of_roll, picks_of, stretch, treadle_at
from loomhold.scripts import chart_of
from tests.helpers import (
    DOUBLE, PLAIN, SPARE, fitting, lets, raised, random_loom, random_value, some_values, treadlings_to, useful_told)
from tests.test_holding import NONE, ODD, TURNS
from tests.test_rolls import FAR, MOST, flat_roll, is_right_roll, nested, random_roll, written_out

ALL = Chart("ab", 1, ((0, "a", 0), (0, "b", 0)), (0,))
STEPS = Chart("ab", 2, ((0, "a", 1), (1, "b", 0)), (0,))
WIDE = Loom(2, (0, 0, 1, 0, 0, 0), ((0,), ()))


def lift_told(loom, letter):
    return loom.lifts["abcdefghijklmnopqrstuvwxyz".index(letter)]


def float_of(loom, word):
    """The greatest float of a treadling, shaft by shaft and pick by pick."""
    best = 0
    for shaft in loom.threading:
        sides = "".join("u" if shaft in lift_told(loom, letter) else "d" for letter in word)
        best = max([best, *map(len, sides.replace("ud", "u d").replace("du", "d u").split())])
    return best


def told_greatest(loom, chart):
    """The greatest float of a chart, told by sets of states that are come to with one side; None without a greatest one."""
    useful = useful_told(chart)
    best = 0
    for shaft in set(loom.threading):
        for side in (True, False):
            moves = [(state, target) for state, letter, target in chart.moves
                     if state in useful and target in useful and (shaft in lift_told(loom, letter)) is side]
            row = useful
            for length in range(chart.states + 1):
                row = {target for state, target in moves if state in row}
                if row:
                    best = max(best, length + 1)
    # As many moves as there are states come twice to one of them.
    return None if best > chart.states - 1 else best


def told_longest(loom, word):
    """The first longest float of a treadling, all floats looked at one by one."""
    rows = []
    for shaft in set(loom.threading):
        place = 0
        while place < len(word):
            side = shaft in lift_told(loom, word[place])
            end = place
            while end < len(word) and (shaft in lift_told(loom, word[end])) is side:
                end += 1
            rows.append((place - end, place, shaft, "up" if side else "down"))
            place = end
    if not rows:
        return None
    number, start, shaft, side = min(rows)
    return (-number, shaft, side, start)


def told_weft(loom, letter):
    """The weft float of a letter: all rows of ends side by side are tried."""
    signs = [shaft in lift_told(loom, letter) for shaft in loom.threading]
    return max(end - start for start in range(len(signs)) for end in range(start + 1, len(signs) + 1)
               if len(set(signs[start:end])) == 1)


class SidesTest(unittest.TestCase):

    def test_sides(self):
        self.assertEqual([side_at(PLAIN, letter, shaft) for letter in "ab" for shaft in (0, 1)], ["up", "down", "down", "up"])
        # The shaft 2 of SPARE has no end, but a side.
        self.assertEqual([side_at(loom=SPARE, letter=letter, shaft=2) for letter in "abcd"], ["down", "up", "down", "down"])

    def test_weft_floats(self):
        self.assertEqual(weft_float(PLAIN, "a"), 1)
        self.assertEqual([weft_float(loom=WIDE, letter=letter) for letter in "ab"], [3, 6])
        self.assertEqual(weft_float(Loom(2, (0, 0, 1, 0, 0, 0), ((0, 1), (1,))), "a"), 6)
        self.assertEqual(weft_float(Loom(2, (1, 0, 0, 0, 1), ((1,),)), "a"), 3)
        self.assertEqual(weft_float(Loom(1, (0,), ((),)), "a"), 1)
        rng = random.Random(241)
        for _ in range(300):
            loom = random_loom(rng, 4, 12, 4)
            for letter in loom.letters:
                self.assertEqual(weft_float(loom, letter), told_weft(loom, letter))


class ChartFloatsTest(unittest.TestCase):

    def test_examples(self):
        self.assertIsNone(greatest_float(PLAIN, ALL))
        self.assertEqual(greatest_float(PLAIN, STEPS), 1)

    def test_without_treadlings(self):
        for chart in (NONE, Chart("a", 1, ((0, "a", 0),), ())):
            self.assertEqual(greatest_float(PLAIN, chart), 0)
            self.assertIsNone(floating_treadling(PLAIN, chart))
            self.assertEqual(greatest_weft_float(PLAIN, chart), 0)
            self.assertIs(keeps_within(PLAIN, chart, 0), True)

    def test_the_empty_treadling_alone(self):
        chart = Chart("a", 1, (), (0,))
        self.assertEqual(greatest_float(loom=PLAIN, chart=chart), 0)
        self.assertIsNone(floating_treadling(loom=PLAIN, chart=chart))
        self.assertEqual(greatest_weft_float(loom=PLAIN, chart=chart), 0)
        self.assertIs(keeps_within(loom=PLAIN, chart=chart, number=0), True)

    def test_without_a_greatest_one(self):
        self.assertIsNone(floating_treadling(PLAIN, ALL))
        for number in (0, 1, 40, 10 ** 30):
            self.assertIs(keeps_within(PLAIN, ALL, number), False)
        self.assertEqual(greatest_weft_float(PLAIN, ALL), 1)

    def test_keeps_within(self):
        loom = Loom(2, (0, 0, 0, 1), ((0,), (1,)))
        # Its floats are 1, its weft floats 3; the other way round with a treadling aaab.
        self.assertEqual([keeps_within(loom, STEPS, n) for n in range(5)], [False, False, False, True, True])
        chart = chart_of("aaab", "ab")
        self.assertEqual([keeps_within(PLAIN, chart, n) for n in range(5)], [False, False, False, True, True])
        self.assertEqual((greatest_float(PLAIN, chart), greatest_weft_float(PLAIN, chart)), (3, 1))

    def test_useful_moves_alone(self):
        # The ring at the state 2 by a is not useful, nor are the letters c and d.
        loom = Loom(2, (0, 1, 1), ((0,), (1,), (), (0, 1)))
        self.assertEqual(greatest_float(loom, ODD), 1)
        self.assertEqual(greatest_weft_float(loom, ODD), 2)
        self.assertEqual(floating_treadling(loom, ODD), "ab")
        self.assertIs(keeps_within(loom, ODD, 2), True)

    def test_shafts_without_ends(self):
        # The shaft 2 has no end, it is raised at each letter and floats not.
        loom = Loom(3, (0, 1), ((0, 2), (1, 2)))
        self.assertEqual(greatest_float(loom, STEPS), 1)
        self.assertEqual(first_longest(loom, ("abab",)), (1, 0, "up", 0))

    def test_one_used_shaft(self):
        loom = Loom(2, (1, 1), ((0,), (1,)))
        self.assertEqual(greatest_float(loom, STEPS), 1)
        self.assertIsNone(greatest_float(loom, chart_of("(a)*", "ab")))
        self.assertEqual(greatest_float(loom, chart_of("[aa|bbb]b", "ab")), 4)
        self.assertEqual(greatest_weft_float(loom, STEPS), 2)

    def test_a_ring_on_one_side(self):
        # Along the ring a, c the shaft 0 stays up, all others change.
        loom = Loom(3, (0, 1, 2), ((0, 1), (2,), (0, 2)))
        self.assertIsNone(greatest_float(loom, chart_of("(ac)*", "abc")))
        self.assertEqual(greatest_float(loom, chart_of("(acb)*", "abc")), 2)

    def test_one_by_one(self):
        rng = random.Random(242)
        told = {}
        for _ in range(400):
            loom, chart = fitting(rng, 4, 3)
            number = told_greatest(loom, chart)
            told[number] = told.get(number, 0) + 1
            self.assertEqual(greatest_float(loom, chart), number)
            words = treadlings_to(chart, 6 if len(chart.letters) < 3 else 4)
            floats = [float_of(loom, word) for word in words]
            if number is not None:
                self.assertLessEqual(max([0, *floats]), number)
            word = floating_treadling(loom, chart)
            if number in (None, 0):
                self.assertIsNone(word)
            else:
                self.assertTrue(lets(chart, word))
                self.assertEqual(float_of(loom, word), number)
                self.assertEqual(element_of(loom, word).longest_float, number)
            useful = useful_told(chart)
            letters = {x for s, x, t in chart.moves if s in useful and t in useful}
            weft = max([0, *[told_weft(loom, letter) for letter in letters]])
            self.assertEqual(greatest_weft_float(loom, chart), weft)
            for most in range(7):
                self.assertIs(keeps_within(loom, chart, most), number is not None and number <= most and weft <= most)
        self.assertGreater(min(told.get(number, 0) for number in (None, 0, 1, 2, 3)), 3)

    def test_sizes_at_the_limits(self):
        rng = random.Random(243)
        begin = time.monotonic()
        for _ in range(60):
            moves = tuple((s, x, rng.randrange(6)) for s in range(6) for x in "abcd" if rng.random() < 0.5)
            chart = Chart("abcd", 6, moves, (3,))
            self.assertEqual(greatest_float(DOUBLE, chart), told_greatest(DOUBLE, chart))
        self.assertLess(time.monotonic() - begin, 20)
        ahead = Chart("a", 61, tuple((s, "a", s + 1) for s in range(60)), (60,))
        self.assertEqual(greatest_float(PLAIN, ahead), 60)
        self.assertEqual(floating_treadling(PLAIN, ahead), "a" * 60)


class RollFloatsTest(unittest.TestCase):

    def test_examples(self):
        self.assertEqual(first_longest(PLAIN, ("b", (3, ("aab",)))), (2, 0, "up", 1))
        self.assertEqual(first_longest(PLAIN, ((10 ** 30, ("a",)),)), (10 ** 30, 0, "up", 0))
        self.assertIsNone(first_longest(PLAIN, ()))

    def test_without_picks(self):
        for roll in ((), ((0, ("ab",)),), ((5, ()),), ((MOST, ((0, ("a",)), (MOST, ()))),)):
            self.assertIsNone(first_longest(loom=PLAIN, roll=roll))
            self.assertEqual(weft_float_of_roll(loom=PLAIN, roll=roll), 0)

    def test_against_the_treadling(self):
        rng = random.Random(244)
        for _ in range(600):
            loom = random_loom(rng, 4, 5, 3)
            roll = random_roll(rng, loom.letters)
            word = written_out(roll)
            if len(word) > 300:
                continue
            told = first_longest(loom, roll)
            self.assertEqual(told, told_longest(loom, word))
            self.assertEqual(weft_float_of_roll(loom, roll), max([0, *[told_weft(loom, letter) for letter in word]]))
            if told is not None:
                self.assertEqual(told[0], element_of_roll(loom, roll).longest_float)

    def test_the_first_of_several(self):
        loom = Loom(3, (2, 1, 0), ((0,), (1,), (2,), (0, 1, 2), ()))
        for word, told in (("d", (1, 0, "up", 0)), ("e", (1, 0, "down", 0)), ("abc", (2, 2, "down", 0)), ("bca", (2, 0, "down", 0)),
                           ("acb", (2, 1, "down", 0)), ("cdb", (2, 2, "up", 0)), ("de", (1, 0, "up", 0)), ("dd", (2, 0, "up", 0)),
                           ("dea", (2, 1, "down", 1)), ("deb", (2, 0, "down", 1)), ("dec", (2, 0, "down", 1)), ("deda", (2, 0, "up", 2))):
            self.assertEqual(first_longest(loom, (word,)), told, word)
            self.assertEqual(told_longest(loom, word), told, word)

    def test_far_rolls(self):
        self.assertEqual(first_longest(PLAIN, ((MOST, ("ab",)), (MOST, ("b",)))), (MOST + 1, 0, "down", 2 * MOST - 1))
        self.assertEqual(first_longest(PLAIN, ((MOST, ("ab", (MOST, ("a",)))),)), (MOST + 1, 0, "up", 2))
        self.assertEqual(first_longest(PLAIN, ("a", (MOST, ((MOST, ("a",)), "b")))), (MOST + 1, 0, "up", 0))
        self.assertEqual(first_longest(PLAIN, ("b", (MOST, ((MOST, ("a",)), "b")))), (MOST, 0, "up", 1))
        self.assertEqual(first_longest(PLAIN, ("b", (0, ((MOST, ("a",)), "b")), "aa")), (2, 0, "up", 1))
        self.assertEqual(first_longest(PLAIN, nested(12, ("a",))), (4096, 0, "up", 0))
        deep = ((MOST, ("b",)),)
        for _ in range(11):
            deep = ((MOST, deep),)
        self.assertEqual(first_longest(PLAIN, ("a", *deep)), (MOST ** 12, 0, "down", 1))

    def test_far_rolls_by_their_elements(self):
        # The first longest float ends where, from the beginning on, a float is first as long as any.
        rng = random.Random(245)
        for _ in range(120):
            loom = random_loom(rng, 3, 4, 2)
            roll = flat_roll(rng, True) if len(loom.letters) == 2 else random_roll(rng, loom.letters)
            told = first_longest(loom, roll)
            longest = element_of_roll(loom, roll).longest_float
            if told is None:
                self.assertEqual(longest, 0)
                continue
            low, high = 0, picks_of(loom, roll)
            while low < high:
                middle = (low + high) // 2
                if element_of_roll(loom, stretch(loom, roll, 0, middle)).longest_float == longest:
                    high = middle
                else:
                    low = middle + 1
            runs = element_of_roll(loom, stretch(loom, roll, 0, low)).runs
            shaft = min(s for s in loom.used if abs(runs[s][1]) == longest)
            self.assertEqual(told, (longest, shaft, "up" if runs[shaft][1] > 0 else "down", low - longest))
            self.assertEqual(side_at(loom, treadle_at(loom, roll, told[3]), told[1]), told[2])

    def test_weft_floats_of_rolls(self):
        self.assertEqual(weft_float_of_roll(WIDE, ("a",)), 3)
        self.assertEqual(weft_float_of_roll(WIDE, ("a", (MOST, ("ab",)))), 6)
        # Letters that stand for no pick are none of the treadling.
        self.assertEqual(weft_float_of_roll(WIDE, ("a", (0, ("b",)))), 3)
        self.assertEqual(weft_float_of_roll(WIDE, ("a", (MOST, ((0, ("b",)), "a")))), 3)
        self.assertEqual(weft_float_of_roll(WIDE, ((0, ((MOST, ("b",)),)), "a")), 3)
        self.assertEqual(weft_float_of_roll(PLAIN, FAR), 1)

    def test_bad_rolls(self):
        rng = random.Random(246)
        values = [value for value in some_values(247, 300) if not is_right_roll("ab", value)]
        for value in [*values, nested(13, ()), ("c",), ((0, ("c",)),), ((True, ("a",)),), ((MOST + 1, ("a",)),), (random_value(rng), "")]:
            for call in (first_longest, weft_float_of_roll):
                self.assertIs(raised(self, BadRoll, call, PLAIN, value).thing, value)

    def test_the_same_again(self):
        roll = ("b", (3, ("aab", (2, ("b",)))))
        self.assertEqual(first_longest(PLAIN, roll), first_longest(PLAIN, roll))
        self.assertEqual(roll, ("b", (3, ("aab", (2, ("b",))))))
        self.assertEqual(floating_treadling(PLAIN, TURNS), floating_treadling(PLAIN, TURNS))


if __name__ == "__main__":
    unittest.main()
