"""Maps, rows that come round and papers of all generations: points 47, 48 and 49."""

import random
import unittest

from loomhold.elements import element_of
from loomhold.errors import TooMany
from loomhold.generations import (
    does_hold_at, first_fallen, first_float_above, first_held, float_row, generations_hold, grown_floats_hold, holding_row,
    is_within_at, judge_generations, judge_grown_floats, map_at, map_round)
from loomhold.growing import Growth, element_at
from loomhold.looms import Loom
from tests.helpers import DOUBLE, LOOSE, PLAIN, all_changed, changed_values, is_true_int, raised, some_values
from tests.test_growing import DOUBLING, FIBO, GONE, GREAT, THUE, TURNS, random_growth, replaced
from tests.test_holding import does_fall

EMPTY = Growth(PLAIN, "", ("ab", "a"))
# Letters that come round in threes and in twos: all maps come round behind six generations.
ROUND = Growth(Loom(2, (0, 1), ((0,), (1,), (0, 1), (), (0,))), "ad", ("b", "c", "a", "e", "d"))
SLOW = Growth(PLAIN, "ab", ("b", "baa"))


def own_letters(growth, many, most=4000):
    """For each n below a number the list of each letter's own generation n, as long as these have not too many letters."""
    rows = [list(growth.loom.letters)]
    while len(rows) < many:
        rows.append([replaced(growth, word) for word in rows[-1]])
        if max(len(word) for word in rows[-1]) > most:
            return rows[:-1]
    return rows


def told_maps(growth, many, top):
    """The maps of generations as far as they can be written out."""
    return [tuple(element_of(growth.loom, word).cut_off(top) for word in row) for row in own_letters(growth, many)]


def joined_maps(growth, top, most=400):
    """The maps until one comes again, and the least pair; elements are joined along the rules, and cut off then."""
    loom = growth.loom
    rows = []
    now = tuple(element_of(loom, letter).cut_off(top) for letter in loom.letters)
    while now not in rows and len(rows) < most:
        rows.append(now)
        further = []
        for rule in growth.rules:
            parts = ((), (False, False), ((0, 0, 0, 0),) * loom.shafts)
            for letter in rule:
                parts = joined(parts, now["abcdefghijklmnopqrstuvwxyz".index(letter)], top)
            further.append(parts)
        now = tuple(further)
    return rows, rows.index(now), len(rows) - rows.index(now)


def joined(one, other, top):
    """Two cut off elements joined, told anew from what point 17 says of runs."""
    pairs = tuple(sorted({*one[0], *other[0]}))
    loose = tuple(a or b for a, b in zip(one[1], other[1]))
    runs = []
    for (b1, e1, u1, d1), (b2, e2, u2, d2) in zip(one[2], other[2]):
        if b1 == 0 or b2 == 0:
            runs.append((b1 + b2, e1 + e2, u1 + u2, d1 + d2))
        elif (e1 > 0) != (b2 > 0):
            runs.append((b1, e2, max(u1, u2), max(d1, d2)))
        else:
            meet = e1 + b2
            runs.append((b1 if u1 and d1 else meet, e2 if u2 and d2 else meet, max(u1, u2, meet), max(d1, d2, -meet)))
    return pairs, loose, tuple(tuple(max(-top, min(top, number)) for number in run) for run in runs)


ELEMENTS = {}


def elements(growth):
    """The elements of the first 41 generations, joined along the rules."""
    key = str(growth)
    if key not in ELEMENTS:
        row = {letter: element_of(growth.loom, letter) for letter in growth.loom.letters}
        rows = []
        for _ in range(41):
            rows.append(sum((row[letter] for letter in growth.start), element_of(growth.loom, "")))
            row = {letter: sum((row[sign] for sign in replaced(growth, letter)), element_of(growth.loom, "")) for letter in row}
        ELEMENTS[key] = rows
    return ELEMENTS[key]


def verdicts(growth, is_right):
    """Whether each of the first generations is so."""
    return [is_right(element) for element in elements(growth)]


def endless(row, many):
    """The first so many signs of a row that comes round."""
    ahead, again = row
    return (ahead + again * many)[:many]


def is_right_paper(growth, thing, is_right, top):
    """Tell whether a value is a paper as point 49 words it, for growths whose maps come round before 40."""
    if type(thing) is not tuple or len(thing) == 0 or type(thing[0]) is not str:
        return False
    rows, first, around = joined_maps(growth, top)
    if thing[0] == "broken" and len(thing) == 2:
        if not is_true_int(thing[1]) or not 0 <= thing[1] <= 10 ** 30:
            return False
        n = thing[1] if thing[1] < len(rows) else first + (thing[1] - first) % around
        return not is_right(elements(growth)[n])
    if thing[0] != "kept" or len(thing) != 3 or not all(is_true_int(number) for number in thing[1:]):
        return False
    if thing[1] < 0 or thing[2] < 1 or thing[1] + thing[2] > 2000 or thing[1] < first or thing[2] % around != 0:
        return False
    return all(verdicts(growth, is_right)[:len(rows)])


def holding(element):
    return element.holds


def within(d):
    return lambda element: element.longest_float <= d


class MapsTest(unittest.TestCase):

    def test_elements(self):
        for growth in (FIBO, GONE, ROUND, SLOW):
            self.assertEqual([element_at(growth, n) for n in (0, 1, 5, 40)], [elements(growth)[n] for n in (0, 1, 5, 40)])

    def test_examples(self):
        self.assertEqual(map_at(FIBO, 1, 1), ((((0, 1), (1, 0)), (False, False), ((1, -1, 1, 1), (-1, 1, 1, 1))),
                                              (((0, 1),), (False, False), ((1, 1, 1, 0), (-1, -1, 0, 1)))))
        self.assertEqual(map_round(FIBO, 1), (2, 2))
        self.assertEqual(map_round(FIBO, 2), (4, 2))

    def test_generations_written_out(self):
        rng = random.Random(860)
        growths = [FIBO, THUE, DOUBLING, GONE, TURNS, EMPTY, ROUND, SLOW, *[random_growth(rng) for _ in range(60)]]
        for growth in growths:
            for top in (1, 2, 3, 6):
                rows = told_maps(growth, 14, top)
                self.assertEqual([map_at(growth, n, top) for n in range(len(rows))], rows)

    def test_rounds(self):
        rng = random.Random(861)
        for growth in [FIBO, THUE, DOUBLING, GONE, TURNS, EMPTY, ROUND, SLOW, GREAT, *[random_growth(rng) for _ in range(80)]]:
            for top in (1, 2, 6):
                rows, first, around = joined_maps(growth, top)
                self.assertEqual(map_round(growth, top), (first, around))
                for n in (0, 1, first, first + around, first + around + 1, 10 ** 30, 10 ** 30 - 1):
                    place = n if n < first else first + (n - first) % around
                    self.assertEqual(map_at(growth, n, top), rows[place])
                need = first + around
                self.assertEqual(map_round(growth, top, most=need), (first, around))
                self.assertEqual(raised(self, TooMany, map_round, growth, top, most=need - 1).most, need - 1)
                self.assertEqual(raised(self, TooMany, map_round, growth, top, most=0).most, 0)
        self.assertEqual(map_round(growth=ROUND, top=1), (0, 6))
        self.assertEqual(map_at(growth=ROUND, n=10 ** 30, top=1), map_at(ROUND, 10 ** 30 % 6, 1))

    def test_shafts_without_ends(self):
        loom = Loom(3, (0, 2), ((1,), (0,), (2,)))
        found = map_at(Growth(loom, "a", ("ab", "b", "c")), 1, 4)
        self.assertEqual(found[0], element_of(loom, "ab").cut_off(4))
        self.assertEqual(found[0][2][1], (1, -1, 1, 1))


class HoldingTest(unittest.TestCase):

    def test_examples(self):
        self.assertEqual(holding_row(FIBO), ("-", "x"))
        self.assertEqual(holding_row(DOUBLING), ("", "-"))
        self.assertEqual(first_held(FIBO), 1)
        self.assertIsNone(first_held(DOUBLING))
        self.assertEqual(judge_grown_floats(FIBO, 1), ("broken", 3))
        self.assertIs(grown_floats_hold(FIBO, 2, ("kept", 4, 2)), True)
        self.assertEqual(float_row(FIBO, 1), ("xxx", "-"))
        self.assertEqual(holding_row(Growth(PLAIN, "ab", ("", "b"))), ("x", "-"))

    def test_generations_written_out(self):
        rng = random.Random(862)
        growths = [FIBO, THUE, DOUBLING, GONE, TURNS, EMPTY, ROUND, SLOW, *[random_growth(rng) for _ in range(50)]]
        seen = {}
        for growth in growths:
            for d in (None, 0, 1, 2, 5):
                is_right = holding if d is None else within(d)
                top = 1 if d is None else d + 1
                right = verdicts(growth, is_right)
                row = holding_row(growth) if d is None else float_row(growth, d)
                self.assertEqual(endless(row, len(right)), "".join("x" if verdict else "-" for verdict in right))
                for n in (0, 1, 2, 5, 11, 40):
                    self.assertIs(does_hold_at(growth, n) if d is None else is_within_at(growth, n, d), right[n])
                rows, first, around = joined_maps(growth, top)
                for n in (10 ** 30, 10 ** 30 - 7, 12345678901234567890):
                    told = right[first + (n - first) % around]
                    self.assertIs(does_hold_at(growth, n) if d is None else is_within_at(growth, n, d), told)
                fallen = right.index(False) if False in right else None
                found = first_fallen(growth) if d is None else first_float_above(growth, d)
                self.assertEqual(found, fallen)
                if d is None:
                    self.assertEqual(first_held(growth), right.index(True) if True in right else None)
                paper = judge_generations(growth) if d is None else judge_grown_floats(growth, d)
                self.assertEqual(paper[0], "kept" if fallen is None else "broken")
                self.assertTrue(is_right_paper(growth, paper, is_right, top))
                self.assertIs(generations_hold(growth, paper) if d is None else grown_floats_hold(growth, d, paper), True)
                if fallen is not None:
                    self.assertEqual(paper[1], fallen)
                key = (d is None, paper[0])
                seen[key] = seen.get(key, 0) + 1
        self.assertGreater(min(seen.values()), 2)
        self.assertEqual(len(seen), 4)

    def test_letters_alone(self):
        rng = random.Random(863)
        for _ in range(40):
            growth = random_growth(rng)
            word = growth.start
            for n in range(6):
                self.assertIs(does_hold_at(growth, n), not does_fall(growth.loom, word))
                word = replaced(growth, word)
                if len(word) > 2000:
                    break

    def test_empty_ones(self):
        self.assertEqual(holding_row(EMPTY), ("", "-"))
        self.assertEqual(float_row(EMPTY, 0), ("", "x"))
        self.assertEqual(judge_generations(EMPTY), ("broken", 0))
        self.assertEqual(judge_grown_floats(EMPTY, 0)[0], "kept")
        self.assertEqual(holding_row(GONE), ("x", "-"))
        self.assertEqual(float_row(GONE, 0), ("--", "x"))
        self.assertEqual(first_float_above(GONE, 0), 0)
        self.assertIs(is_within_at(GONE, 2, 0), True)
        self.assertIs(does_hold_at(GONE, 2), False)
        self.assertEqual(judge_generations(TURNS), ("kept", 0, 2))

    def test_least_rows(self):
        rng = random.Random(864)
        for growth in [ROUND, SLOW, FIBO, *[random_growth(rng) for _ in range(150)]]:
            for row in (holding_row(growth), float_row(growth, 1), float_row(growth, 3)):
                ahead, again = row
                self.assertNotEqual(again, "")
                self.assertLessEqual(set(ahead + again), {"x", "-"})
                self.assertFalse(any(len(again) % many == 0 and again == again[:many] * (len(again) // many) for many in range(1, len(again))))
                self.assertTrue(ahead == "" or ahead[-1] != again[-1])

    def test_a_row_of_six(self):
        # a, b, c come round in three generations, d and e in two: ad, be, cd, ae, bd, ce.
        told = "".join("-" if does_fall(ROUND.loom, word) else "x" for word in ("ad", "be", "cd", "ae", "bd", "ce"))
        self.assertEqual(told, "-x----")
        self.assertEqual(holding_row(growth=ROUND), ("", "-x----"))
        self.assertEqual(first_held(growth=ROUND), 1)
        self.assertIs(does_hold_at(ROUND, 10 ** 30 - 10 ** 30 % 6 + 1), True)
        self.assertIs(does_hold_at(growth=ROUND, n=10 ** 30 - 10 ** 30 % 6), False)


class TooManyTest(unittest.TestCase):

    def test_rounds_that_are_needed(self):
        rng = random.Random(865)
        for growth in [ROUND, FIBO, SLOW, DOUBLING, THUE, *[random_growth(rng) for _ in range(60)]]:
            for d in (None, 0, 1, 3):
                top = 1 if d is None else d + 1
                need = sum(map_round(growth, top))
                row = holding_row if d is None else lambda growth, **more: float_row(growth, d, **more)
                at = does_hold_at if d is None else lambda growth, n, **more: is_within_at(growth, n, d, **more)
                self.assertEqual(row(growth, most=need), row(growth))
                self.assertEqual(raised(self, TooMany, row, growth, most=need - 1).most, need - 1)
                for most in (need, need + 1):
                    for n in (0, most - 1, most, most + 5, 10 ** 30):
                        self.assertIs(at(growth, n, most=most), at(growth, n))
                for most in {0, 1, need - 1}:
                    for n in (0, most - 1, most, most + 1, 10 ** 30):
                        if 0 <= n < most:
                            self.assertIs(at(growth, n, most=most), at(growth, n))
                        elif most < need and n >= 0:
                            self.assertEqual(raised(self, TooMany, at, growth, n, most=most).most, most)

    def test_first_ones(self):
        rng = random.Random(866)
        for growth in [ROUND, FIBO, SLOW, DOUBLING, THUE, TURNS, GONE, *[random_growth(rng) for _ in range(60)]]:
            for d in (None, 0, 1, 2, 3):
                top = 1 if d is None else d + 1
                need = sum(map_round(growth, top))
                if d is None:
                    calls = [(first_fallen, False), (first_held, True)]
                    judge = judge_generations
                else:
                    calls = [(lambda growth, **more: first_float_above(growth, d, **more), False)]
                    judge = lambda growth, **more: judge_grown_floats(growth, d, **more)
                right = verdicts(growth, holding if d is None else within(d))
                for call, verdict in calls:
                    told = right.index(verdict) if verdict in right else None
                    for most in {0, 1, 2, need - 1, need, need + 1}:
                        if told is not None and told < most or most >= need:
                            self.assertEqual(call(growth, most=most), told)
                        else:
                            self.assertEqual(raised(self, TooMany, call, growth, most=most).most, most)
                fallen = right.index(False) if False in right else None
                for most in {0, 1, need - 1, need}:
                    if fallen is not None and fallen < most:
                        self.assertEqual(judge(growth, most=most), ("broken", fallen))
                    elif most >= need:
                        self.assertEqual(judge(growth, most=most)[0], "kept")
                    else:
                        self.assertEqual(raised(self, TooMany, judge, growth, most=most).most, most)


    def test_more_than_two_thousand(self):
        # Each generation has one letter more, all of one side: the maps at 3,001 come round behind 3,000 generations.
        loom = Loom(1, (0,), ((0,), (0,)))
        growth = Growth(loom, "a", ("ab", "b"))
        calls = [lambda **more: map_round(growth, 3001, **more), lambda **more: float_row(growth, 3000, **more),
                 lambda **more: first_float_above(growth, 3000, **more), lambda **more: judge_grown_floats(growth, 3000, **more),
                 lambda **more: is_within_at(growth, 2000, 3000, **more), lambda **more: is_within_at(growth, 10 ** 30, 3000, **more)]
        for call in calls:
            self.assertEqual(raised(self, TooMany, call).most, 2000)
            self.assertEqual(raised(self, TooMany, call, most=1500).most, 1500)
        self.assertIs(is_within_at(growth, 1999, 3000), True)
        self.assertEqual(map_round(growth, 3001, most=4000), (3000, 1))
        self.assertEqual(first_float_above(growth, 3000, most=4000), 3000)
        self.assertEqual(float_row(growth, 3000, most=4000), ("x" * 3000, "-"))
        self.assertEqual(first_float_above(growth, 1500), 1500)
        self.assertEqual(judge_grown_floats(growth, 1999), ("broken", 1999))
        self.assertIs(grown_floats_hold(growth, 3000, ("broken", 1999)), False)
        self.assertIs(grown_floats_hold(growth, 3000, ("kept", 1999, 1)), False)
        self.assertIs(grown_floats_hold(growth, 1999, ("broken", 10 ** 30)), True)
        self.assertIsInstance(grown_floats_hold(growth, 3000, ("broken", 10 ** 30)), bool)


class PapersTest(unittest.TestCase):

    def test_papers_of_others(self):
        for growth, d in ((TURNS, None), (FIBO, 2), (THUE, 2), (EMPTY, 0), (ROUND, 5), (SLOW, 5)):
            top = 1 if d is None else d + 1
            is_right = holding if d is None else within(d)
            first, around = map_round(growth, top)
            self.assertTrue(all(verdicts(growth, is_right)) or growth is SLOW or growth is ROUND)
            for begin in (first, first + 1, first + 7, 1990):
                for many in (around, 2 * around, around + 1, 10 * around, 2000):
                    thing = ("kept", begin, many)
                    told = is_right_paper(growth, thing, is_right, top)
                    self.assertIs(generations_hold(growth, thing) if d is None else grown_floats_hold(growth, d, thing), told)
        self.assertIs(generations_hold(TURNS, ("kept", 5, 1994)), True)
        self.assertIs(generations_hold(TURNS, ("kept", 6, 1994)), True)
        self.assertIs(generations_hold(TURNS, ("kept", 7, 1994)), False)
        self.assertIs(generations_hold(TURNS, ("kept", 5, 3)), False)
        self.assertIs(grown_floats_hold(FIBO, 2, ("kept", 3, 2)), False)
        self.assertIs(grown_floats_hold(FIBO, 1, ("kept", 4, 2)), False)
        self.assertIs(grown_floats_hold(FIBO, 1, ("kept", 0, 3)), False)

    def test_broken_ones(self):
        for n in (0, 1, 2, 3, 5, 1999, 2000, 10 ** 30 - 1, 10 ** 30):
            self.assertIs(generations_hold(FIBO, ("broken", n)), n == 0)
            self.assertIs(generations_hold(DOUBLING, ("broken", n)), True)
            self.assertIs(grown_floats_hold(FIBO, 1, ("broken", n)), n >= 3)
            self.assertIs(generations_hold(growth=ROUND, thing=("broken", n)), n % 6 != 1)
        for thing in (("broken", 10 ** 30 + 1), ("broken", -1), ("broken", True), ("broken", "0"), ("broken",), ["broken", 0], ("broken", 0, 0)):
            self.assertIs(generations_hold(DOUBLING, thing), False)

    def test_any_and_changed_papers(self):
        rng = random.Random(867)
        values = some_values(868, 150)
        growths = [FIBO, TURNS, EMPTY, ROUND, DOUBLING, *[random_growth(rng) for _ in range(8)]]
        for growth in growths:
            for value in values:
                self.assertIs(generations_hold(growth, value), is_right_paper(growth, value, holding, 1), value)
                self.assertIs(grown_floats_hold(growth, 2, value), is_right_paper(growth, value, within(2), 3), value)
        for seed, growth in enumerate(growths):
            paper = judge_generations(growth)
            for value in [*all_changed(paper), *changed_values(seed, paper, 30)]:
                self.assertIs(generations_hold(growth, value), is_right_paper(growth, value, holding, 1), value)
            for d in (0, 1, 3):
                paper = judge_grown_floats(growth, d)
                for value in [*all_changed(paper), *changed_values(seed, paper, 30)]:
                    self.assertIs(grown_floats_hold(growth=growth, d=d, thing=value), is_right_paper(growth, value, within(d), d + 1), value)

    def test_never_both(self):
        rng = random.Random(869)
        for growth in [random_growth(rng) for _ in range(30)]:
            for d in (None, 1):
                def check(thing):
                    return generations_hold(growth, thing) if d is None else grown_floats_hold(growth, d, thing)
                kept = [(a, b) for a in range(6) for b in range(1, 7) if check(("kept", a, b))]
                broken = [n for n in range(30) if check(("broken", n))]
                self.assertFalse(kept and broken)


class SizesTest(unittest.TestCase):

    def test_at_the_limits(self):
        rng = random.Random(870)
        for _ in range(6):
            rules = tuple("".join(rng.choice("abcd") for _ in range(8)) for _ in range(4))
            growth = Growth(DOUBLE, "abcdabcd", rules)
            for top in range(1, 7):
                rows, first, around = joined_maps(growth, top)
                self.assertEqual(map_round(growth, top), (first, around))
                self.assertEqual(map_at(growth, 10 ** 30, top), rows[first + (10 ** 30 - first) % around])
            for d in range(6):
                self.assertIs(grown_floats_hold(growth, d, judge_grown_floats(growth, d)), True)
            self.assertIs(generations_hold(growth, judge_generations(growth)), True)

    def test_long_rounds(self):
        # Two letters each of which becomes the other, between letters that become nothing or more of one.
        loom = Loom(4, (0, 1, 2, 3), ((0, 1), (1, 2), (2, 3), (0, 3)))
        growth = Growth(loom, "abcd", ("b", "c", "d", "a"))
        self.assertEqual(map_round(growth, 1), (0, 4))
        growth = Growth(loom, "abcd", ("bd", "c", "ab", ""))
        for top in (1, 6):
            self.assertEqual(map_round(growth, top), joined_maps(growth, top)[1:])

    def test_the_same_again(self):
        for call in (holding_row, first_fallen, first_held, judge_generations):
            self.assertEqual(call(FIBO), call(Growth.read(str(FIBO))))
            self.assertEqual(call(growth=LOOSEN, most=50), call(LOOSEN))
        self.assertEqual(float_row(growth=LOOSEN, d=2, most=50), float_row(LOOSEN, 2))
        self.assertEqual(first_float_above(growth=LOOSEN, d=0, most=1), 0)
        self.assertEqual(judge_grown_floats(growth=LOOSEN, d=0, most=1), ("broken", 0))
        self.assertIs(is_within_at(growth=LOOSEN, n=1, d=1, most=2), is_within_at(LOOSEN, 1, 1))


LOOSEN = Growth(LOOSE, "abc", ("ab", "ca", "c"))


if __name__ == "__main__":
    unittest.main()
