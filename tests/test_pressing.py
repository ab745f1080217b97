"""Several treadles at once, bars, covers, and crossings that are apart: point 61."""

import itertools
import random
import unittest

from loomhold.cloths import Cloth
from loomhold.drafts import fewest_shafts
from loomhold.errors import BadPress
from loomhold.looms import Loom
from loomhold.pressing import (
    apart_holds, are_apart, are_presses, bars_by, bars_of, do_cover, fewest_bars, is_bar, most_apart, pressed_draft, woven_pressed)
from tests.helpers import (
    LOOSE, PLAIN, SPARE, all_changed, changed_values, is_sorted, is_true_int, raised, random_cloth, random_loom, some_values)

LESS = Cloth(("-xxx", "x-xx", "xx-x", "xxx-"))
NONE = Cloth(("---", "---"))
SIX = Cloth(tuple("".join("-" if i == j else "x" for j in range(6)) for i in range(6)))


def above(cloth):
    return [(i, j) for i, pick in enumerate(cloth.picks) for j, sign in enumerate(pick) if sign == "x"]


def told_pressed(loom, presses):
    lifts = dict(zip(loom.letters, loom.lifts))
    rows = []
    for press in presses:
        raised_shafts = {shaft for letter in press for shaft in lifts[letter]}
        rows.append("".join("x" if shaft in raised_shafts else "-" for shaft in loom.threading))
    return tuple(rows)


def is_right_press(loom, thing):
    return type(thing) is str and set(thing) <= set(loom.letters) and list(thing) == sorted(set(thing))


def is_right_bar(cloth, thing):
    if type(thing) is not tuple or len(thing) != 2:
        return False
    for part, many in zip(thing, (len(cloth), cloth.ends)):
        if type(part) is not tuple or not part or not all(is_true_int(k) and 0 <= k < many for k in part) or not is_sorted(part):
            return False
    return all(cloth.picks[i][j] == "x" for i in thing[0] for j in thing[1])


def is_right_cover(cloth, thing):
    if type(thing) is not tuple or not all(is_right_bar(cloth, bar) for bar in thing):
        return False
    return {(i, j) for picks, ends in thing for i in picks for j in ends} == set(above(cloth))


def told_apart(cloth, one, other):
    """Tell whether no bar has both crossings: the least one that could have them is tried."""
    return not is_right_bar(cloth, (tuple(sorted({one[0], other[0]})), tuple(sorted({one[1], other[1]}))))


def is_right_apart(cloth, thing):
    if type(thing) is not tuple:
        return False
    for pair in thing:
        if type(pair) is not tuple or len(pair) != 2 or not all(is_true_int(k) for k in pair) or pair not in above(cloth):
            return False
    return is_sorted(thing) and all(told_apart(cloth, one, other) for one, other in itertools.combinations(thing, 2))


def greatest_bars(cloth):
    """For each set of picks the bar of all ends that lie above them."""
    bars = set()
    for many in range(1, len(cloth) + 1):
        for picks in itertools.combinations(range(len(cloth)), many):
            ends = tuple(j for j in range(cloth.ends) if all(cloth.picks[i][j] == "x" for i in picks))
            if ends:
                bars.add(frozenset((i, j) for i in picks for j in ends))
    return bars


def told_fewest(cloth):
    """The least number of bars, all sets of great bars being tried, fewer ones first."""
    asked = frozenset(above(cloth))
    bars = greatest_bars(cloth)
    bars = [bar for bar in bars if not any(bar < other for other in bars)]
    for many in range(len(cloth) + 1):
        if any(frozenset().union(*row) == asked for row in itertools.combinations(bars, many)):
            return many
    raise AssertionError


def told_most_apart(cloth):
    """The most crossings any two of which are apart, all sets being tried, greater ones from lesser ones."""
    rows = [()]
    while True:
        further = [(*row, pair) for row in rows for pair in above(cloth)
                   if (not row or row[-1] < pair) and all(told_apart(cloth, one, pair) for one in row)]
        if not further:
            return len(rows[0])
        rows = further


class PressesTest(unittest.TestCase):

    def test_examples(self):
        self.assertEqual(woven_pressed(PLAIN, ("a", "ab", "")), Cloth(("x-x-", "xxxx", "----")))
        self.assertEqual(bars_by(PLAIN, ("a", "ab", "")), (((0, 1), (0, 2)), ((1,), (1, 3))))
        self.assertEqual(fewest_bars(LESS), 4)
        self.assertEqual(len(most_apart(LESS)), 3)
        self.assertIs(apart_holds(LESS, ((0, 1), (1, 2), (2, 0))), True)
        self.assertEqual(fewest_bars(SIX), 4)

    def test_woven(self):
        rng = random.Random(940)
        for _ in range(150):
            loom = random_loom(rng, 4, 5, 4)
            presses = tuple("".join(letter for letter in loom.letters if rng.random() < 0.4) for _ in range(rng.randrange(1, 6)))
            self.assertIs(are_presses(loom, presses), True)
            cloth = woven_pressed(loom=loom, presses=presses)
            self.assertEqual(cloth.picks, told_pressed(loom, presses))
            bars = bars_by(loom=loom, presses=presses)
            self.assertTrue(is_right_cover(cloth, bars))
            self.assertIs(do_cover(cloth, bars), True)
            told = []
            for letter, lift in zip(loom.letters, loom.lifts):
                picks = tuple(number for number, press in enumerate(presses) if letter in press)
                ends = tuple(end for end, shaft in enumerate(loom.threading) if shaft in lift)
                if picks and ends:
                    told.append((picks, ends))
            self.assertEqual(bars, tuple(told))
        self.assertEqual(woven_pressed(PLAIN, ("",)), Cloth(("----",)))
        # Treadles that are never pressed, or raise no end, have no bar; two that are pressed alike have one twice.
        self.assertEqual(bars_by(SPARE, ("bc", "c")), (((0,), (3,)),))
        self.assertEqual(bars_by(SPARE, ("c",)), ())
        self.assertEqual(bars_by(Loom(2, (0, 1), ((0,), (0,), (1,))), ("ab", "ab", "c")), (((0, 1), (0,)), ((0, 1), (0,)), ((2,), (1,))))
        self.assertEqual(bars_by(Loom(2, (0, 1), ((1,), (0,))), ("ab",)), (((0,), (1,)), ((0,), (0,))))
        self.assertEqual(len(woven_pressed(LOOSE, ("abc",) * 60)), 60)

    def test_wrong_presses(self):
        for value in some_values(941, 200):
            right = type(value) is tuple and len(value) > 0 and all(is_right_press(PLAIN, press) for press in value)
            self.assertIs(are_presses(PLAIN, value), right, value)
            if right:
                self.assertEqual(woven_pressed(PLAIN, value).picks, told_pressed(PLAIN, value))
            else:
                number = -1
                if type(value) is tuple and value:
                    number = [is_right_press(PLAIN, press) for press in value].index(False)
                self.assertEqual(raised(self, BadPress, woven_pressed, PLAIN, value).number, number)
        presses = ("a", "ab", "", "b")
        for value in [*all_changed(presses), *changed_values(942, presses, 100)]:
            right = type(value) is tuple and len(value) > 0 and all(is_right_press(PLAIN, press) for press in value)
            self.assertIs(are_presses(loom=PLAIN, thing=value), right, value)
        for thing, number in ((("ba",), 0), (("a", "aa"), 1), (("a", "b", "c"), 2), (("", ["a"]), 1), (["a"], -1), ((), -1), ("a", -1), (None, -1)):
            self.assertEqual(raised(self, BadPress, woven_pressed, PLAIN, thing).number, number)


class CoversTest(unittest.TestCase):

    def test_bars(self):
        rng = random.Random(943)
        for cloth in [LESS, *[random_cloth(rng, 3, 3) for _ in range(30)]]:
            parts = [[row for many in range(4) for row in itertools.combinations(range(size), many)] for size in (len(cloth), cloth.ends)]
            for thing in itertools.product(*parts):
                self.assertIs(is_bar(cloth=cloth, thing=thing), is_right_bar(cloth, thing))
        for thing in (((0,), (0,)), ((0, 1), (2, 3)), ((1, 0), (2,)), ((0,), ()), ((), (1,)), ((0,), [1]), [(0,), (1,)], ((0,), (True,)),
                      ((False,), (1,)), ((0,), (4,)), ((4,), (0,)), ((0, 0), (1,)), ((0,),), ((0,), (1,), ()), (0, 1)):
            self.assertIs(is_bar(LESS, thing), is_right_bar(LESS, thing))

    def test_covers(self):
        bars = bars_of(LESS)
        self.assertIs(do_cover(LESS, bars), True)
        self.assertIs(do_cover(LESS, bars[::-1]), True)
        self.assertIs(do_cover(LESS, (*bars, bars[0])), True)
        for at in range(len(bars)):
            self.assertIs(do_cover(LESS, bars[:at] + bars[at + 1:]), False)
        self.assertIs(do_cover(LESS, list(bars)), False)
        self.assertIs(do_cover(LESS, (*bars, ((0,), (0,)))), False)
        self.assertIs(do_cover(LESS, tuple(((i,), (j,)) for i, j in above(LESS))), True)
        self.assertIs(do_cover(NONE, ()), True)
        self.assertIs(do_cover(LESS, ()), False)
        self.assertIs(do_cover(cloth=NONE, thing=(((0,), (0,)),)), False)

    def test_any_bars_and_covers(self):
        for cloth in (LESS, NONE, Cloth(("x",)), Cloth(("xx", "x-"))):
            for value in some_values(944, 200):
                self.assertIs(is_bar(cloth, value), is_right_bar(cloth, value), value)
                self.assertIs(do_cover(cloth, value), is_right_cover(cloth, value), value)
            bars = bars_of(cloth)
            for value in [*all_changed(bars), *changed_values(945, bars, 80)]:
                self.assertIs(do_cover(cloth, value), is_right_cover(cloth, value), value)
            for bar in bars:
                for value in [*all_changed(bar), *changed_values(946, bar, 40)]:
                    self.assertIs(is_bar(cloth, value), is_right_bar(cloth, value), value)

    def check(self, cloth, many):
        bars = bars_of(cloth)
        self.assertEqual(fewest_bars(cloth), many, cloth.picks)
        self.assertEqual(len(bars), many)
        self.assertTrue(is_right_cover(cloth, bars))
        self.assertEqual(list(bars), sorted(bars))
        loom, presses = pressed_draft(cloth)
        self.assertEqual(told_pressed(loom, presses), cloth.picks)
        self.assertEqual(woven_pressed(loom, presses), cloth)
        self.assertEqual(len(loom.lifts), max(1, many))
        self.assertEqual(loom.shafts, fewest_shafts(cloth))
        self.assertEqual(loom.used, tuple(range(loom.shafts)))
        apart = most_apart(cloth)
        self.assertTrue(is_right_apart(cloth, apart))
        self.assertIs(apart_holds(cloth, apart), True)
        self.assertLessEqual(len(apart), many)

    def test_all_small_cloths(self):
        for picks, ends in ((1, 1), (1, 3), (3, 1), (2, 2), (2, 3), (3, 2), (3, 3)):
            rows = ["".join(row) for row in itertools.product("x-", repeat=ends)]
            for row in itertools.product(rows, repeat=picks):
                cloth = Cloth(row)
                self.check(cloth, told_fewest(cloth))
                self.assertEqual(len(most_apart(cloth)), told_most_apart(cloth))

    def test_random_cloths(self):
        rng = random.Random(947)
        less = 0
        for _ in range(120):
            share = rng.choice([0.3, 0.5, 0.7, 0.85])
            high, wide = rng.randrange(3, 6), rng.randrange(3, 6)
            cloth = Cloth(tuple("".join("x" if rng.random() < share else "-" for _ in range(wide)) for _ in range(high)))
            many = told_fewest(cloth)
            self.check(cloth, many)
            self.assertEqual(len(most_apart(cloth)), told_most_apart(cloth))
            less += len(most_apart(cloth)) < many
        self.assertGreater(less, 0)

    def test_no_end_above(self):
        for cloth in (NONE, Cloth(("-",)), Cloth(("-", "-"))):
            self.check(cloth, 0)
            self.assertEqual(bars_of(cloth=cloth), ())
            self.assertEqual(most_apart(cloth=cloth), ())
            self.assertEqual(fewest_bars(cloth=cloth), 0)
        self.assertEqual(pressed_draft(cloth=NONE), (Loom(1, (0, 0, 0), ((),)), ("", "")))

    def test_six_unlike_picks_and_ends(self):
        rng = random.Random(948)
        for _ in range(60):
            share = rng.choice([0.2, 0.5, 0.7, 0.8, 0.9])
            rows = ["".join("x" if rng.random() < share else "-" for _ in range(6)) for _ in range(6)]
            small = Cloth(tuple(rows))
            many = fewest_bars(small)
            self.check(small, many)
            # Each pick and each end may stand there more than once.
            order = [rng.randrange(6) for _ in range(20)] + list(range(6))
            wide = [rng.randrange(6) for _ in range(6)] + list(range(6))
            great = Cloth(tuple("".join(rows[i][j] for j in wide) for i in order))
            self.check(great, many)
            self.assertEqual(len(most_apart(great)), len(most_apart(small)))
        self.check(SIX, 4)
        self.check(Cloth(tuple("".join("x" if i == j else "-" for j in range(6)) for i in range(6))), 6)
        self.check(Cloth(tuple("".join("x" if i <= j else "-" for j in range(6)) for i in range(6))), 6)
        self.check(Cloth(("x" * 12,) * 60), 1)

    def test_no_fewer_bars(self):
        # Six unlike picks and ends beside all sets of great bars.
        rng = random.Random(949)
        for _ in range(12):
            cloth = Cloth(tuple("".join("x" if rng.random() < 0.5 else "-" for _ in range(6)) for _ in range(6)))
            self.assertEqual(fewest_bars(cloth), told_fewest(cloth))


class ApartTest(unittest.TestCase):

    def test_pairs(self):
        rng = random.Random(950)
        for cloth in [LESS, SIX, *[random_cloth(rng, 4, 4) for _ in range(25)]]:
            for one in above(cloth):
                self.assertIs(are_apart(cloth, one, one), False)
                for other in above(cloth):
                    right = told_apart(cloth, one, other)
                    self.assertIs(are_apart(cloth=cloth, one=one, other=other), right)
                    if one[0] == other[0] or one[1] == other[1]:
                        self.assertIs(right, False)

    def test_rows(self):
        rng = random.Random(951)
        for cloth in [LESS, *[random_cloth(rng, 3, 3) for _ in range(25)]]:
            for many in range(4):
                for row in itertools.combinations(above(cloth), many):
                    self.assertIs(apart_holds(cloth=cloth, thing=row), is_right_apart(cloth, row))
                    if many > 1:
                        self.assertIs(apart_holds(cloth, row[::-1]), False)
        self.assertIs(apart_holds(LESS, ()), True)
        self.assertIs(apart_holds(LESS, ((0, 1),)), True)
        for thing in (((0, 0),), ((0, True),), ((0, 4),), ((0, 1), (0, 1)), [(0, 1)], ((0, 1, 2),), (0, 1), ((0, 1), (2, 3)), None):
            self.assertIs(apart_holds(LESS, thing), False)

    def test_any_rows(self):
        for cloth in (LESS, NONE, Cloth(("x",)), Cloth(("x" * 60,) * 60)):
            for value in some_values(952, 150):
                self.assertIs(apart_holds(cloth, value), is_right_apart(cloth, value), value)
            apart = most_apart(cloth)
            for value in [*all_changed(apart), *changed_values(953, apart, 60)]:
                self.assertIs(apart_holds(cloth, value), is_right_apart(cloth, value), value)
        self.assertIs(apart_holds(Cloth(("x" * 60,) * 60), tuple((i, j) for i in range(40) for j in range(40))), False)

    def test_the_same_again(self):
        for call in (fewest_bars, bars_of, most_apart, pressed_draft):
            self.assertEqual(call(SIX), call(Cloth(SIX.picks)))


if __name__ == "__main__":
    unittest.main()
