"""Holding and levels: points 7, 8 and 9, and the papers of holding."""

import itertools
import random
import unittest

from loomhold.byletters import do_hold, letter_levels, letters_of
from loomhold.cloths import Cloth, is_over, strands, woven
from loomhold.levels import does_hold, holding_holds, judge_holding, level_of, levels_of
from loomhold.looms import Loom
from tests.helpers import DOUBLE, LOOSE, PLAIN, changed_values, is_sorted, random_cloth, random_loom, random_word, some_values
from tests.test_cloths import led_from


def told_levels(cloth):
    """The levels as point 8 words them: parts, and single strands told by what lies above and below them."""
    row = strands(cloth)
    led = {one: led_from(cloth, one) for one in row}
    levels = set()
    for one in row:
        part = tuple(other for other in row if other == one or (other in led[one] and one in led[other]))
        if len(part) > 1:
            levels.add(part)
            continue
        above = {other for other in row if one in led[other]}
        level = []
        for other in row:
            single = not any(third in led[other] and other in led[third] for third in row)
            if single and other[0] == one[0] and other not in led[one] and one not in led[other]:
                if led[other] == led[one] and {third for third in row if other in led[third]} == above:
                    level.append(other)
        levels.add(tuple(level))
    return tuple(sorted(levels, key=lambda level: (-len(led[level[0]] - set(level)), level)))


def is_right_paper(cloth, thing):
    """Tell whether a value is a paper of holding, as point 7 words it."""
    if type(thing) is not tuple or len(thing) != 2 or type(thing[0]) is not str or type(thing[1]) is not tuple:
        return False
    row = strands(cloth)
    for item in thing[1]:
        if type(item) is not tuple or len(item) != 2 or type(item[0]) is not str or type(item[1]) is not int:
            return False
        if item not in row:
            return False
    if thing[0] == "holds":
        ring = thing[1]
        return set(ring) == set(row) and all(is_over(cloth, ring[k - 1], ring[k]) for k in range(len(ring)))
    lot = thing[1]
    if thing[0] != "apart" or not 0 < len(lot) < len(row) or not is_sorted(lot):
        return False
    return not any(is_over(cloth, one, other) for one in row if one not in lot for other in lot)


class LevelsTest(unittest.TestCase):

    def test_examples(self):
        self.assertIs(does_hold(woven(PLAIN, "ab")), True)
        self.assertIs(does_hold(cloth=woven(PLAIN, "a")), False)
        self.assertEqual(levels_of(woven(PLAIN, "a")), ((("end", 0), ("end", 2)), (("pick", 0),), (("end", 1), ("end", 3))))

    def test_level_of(self):
        cloth = woven(PLAIN, "a")
        self.assertEqual([level_of(cloth, strand) for strand in strands(cloth)], [0, 2, 0, 2, 1])
        self.assertEqual(level_of(cloth, strand=("pick", 0)), 1)

    def test_one_pick_or_one_end(self):
        for picks in (("x",), ("-",), ("x-x",), ("xxx",), ("x", "-", "x"), ("-", "-")):
            cloth = Cloth(picks)
            self.assertIs(does_hold(cloth), False)
            self.assertEqual(levels_of(cloth), told_levels(cloth))
            self.assertEqual(judge_holding(cloth)[0], "apart")

    def test_all_small_cloths(self):
        for height, width in ((1, 3), (2, 2), (2, 3), (3, 2), (3, 3)):
            rows = ["".join(signs) for signs in itertools.product("x-", repeat=width)]
            for picks in itertools.product(rows, repeat=height):
                cloth = Cloth(picks)
                levels = levels_of(cloth)
                self.assertEqual(levels, told_levels(cloth))
                self.assertEqual(does_hold(cloth), all(len(led_from(cloth, one)) == height + width for one in strands(cloth)))
                paper = judge_holding(cloth)
                self.assertTrue(is_right_paper(cloth, paper))
                self.assertIs(holding_holds(cloth, paper), True)
                self.assertEqual(paper[0] == "holds", len(levels) == 1)
                self.assertEqual(does_hold(cloth), len(levels) == 1)

    def test_greater_cloths(self):
        rng = random.Random(21)
        for _ in range(60):
            cloth = random_cloth(rng, 12, 12)
            levels = levels_of(cloth)
            self.assertEqual(levels, told_levels(cloth))
            self.assertEqual(sorted(strand for level in levels for strand in level), list(strands(cloth)))
            for number, level in enumerate(levels):
                lower = {strand for below in levels[number + 1:] for strand in below}
                for strand in level:
                    self.assertEqual(level_of(cloth, strand), number)
                    self.assertLessEqual(lower, led_from(cloth, strand))
            self.assertTrue(is_right_paper(cloth, judge_holding(cloth)))

    def test_limits(self):
        loom = Loom(4, (0, 1, 2, 3) * 3, ((0,), (0, 1), (0, 1, 2), (3,)))
        cloth = woven(loom, "abcd" * 15)
        paper = judge_holding(cloth)
        self.assertTrue(is_right_paper(cloth, paper))
        self.assertTrue(holding_holds(cloth, paper))
        again = ("holds", paper[1] * 40) if paper[0] == "holds" else paper
        self.assertTrue(holding_holds(cloth, again))
        rows = tuple("x" * k + "-" * (12 - k) for k in range(12))
        ladder = Cloth(rows)
        self.assertEqual(levels_of(ladder), told_levels(ladder))

    def test_a_long_ring(self):
        # Each pick lies over one end alone but for the last: the only ring comes through all of them in turn.
        rows = tuple("x" * k + "-" + "x" * (11 - k) if k < 11 else "-" * 11 + "x" for k in range(12))
        cloth = Cloth(rows)
        paper = judge_holding(cloth)
        self.assertTrue(is_right_paper(cloth, paper))
        self.assertTrue(holding_holds(cloth, paper))


class PapersTest(unittest.TestCase):

    def test_examples(self):
        one = Cloth(("x-", "-x"))
        self.assertIs(holding_holds(one, ("holds", (("end", 0), ("pick", 0), ("end", 1), ("pick", 1)))), True)
        other = Cloth(("xx", "-x"))
        self.assertEqual(judge_holding(other)[0], "apart")
        self.assertIs(holding_holds(other, ("apart", (("end", 0), ("end", 1), ("pick", 1)))), True)
        self.assertIs(holding_holds(other, ("apart", (("end", 1),))), True)
        self.assertIs(holding_holds(other, thing=("apart", (("end", 1), ("pick", 1)))), True)

    def test_wrong_ones(self):
        cloth = Cloth(("x-", "-x"))
        ring = (("end", 0), ("pick", 0), ("end", 1), ("pick", 1))
        self.assertTrue(holding_holds(cloth, ("holds", ring * 2)))
        self.assertTrue(holding_holds(cloth, ("holds", ring[1:] + ring[:1])))
        wrong = [("holds", ring[::-1]), ("holds", ring[:3]), ("holds", ring + ring[:1]), ("holds", list(ring)), ("holds", ()),
                 ["holds", ring], ("holds", ring, ()), ("holds",), ("held", ring), ("apart", ring), ("apart", ring[:1]),
                 ("apart", ()), ("apart", tuple(sorted(ring))), (ring, "holds"), ("holds", (["end", 0], *ring[1:])),
                 ("holds", (("end", False), ("pick", 0), ("end", 1), ("pick", 1))), ("holds", ring[0]),
                 ("holds", (("end", 0), ("pick", 0), ("end", True), ("pick", 1))), ("holds", None), None, (), "holds"]
        for thing in wrong:
            self.assertIs(holding_holds(cloth, thing), False, thing)
        loose = Cloth(("xx", "-x"))
        wrong = [("apart", (("pick", 1), ("end", 1))), ("apart", (("end", 1), ("end", 1))), ("apart", (("end", 0),)),
                 ("apart", (("end", 0), ("end", 1), ("pick", 0), ("pick", 1))), ("apart", [("end", 1)]), ("apart", ()),
                 ("apart", (("end", 2),)), ("apart", (("end", -1),)), ("apart", (("end", True),)), ("apart", (("end", 1, 0),)),
                 ("holds", (("end", 1),))]
        for thing in wrong:
            self.assertIs(holding_holds(loose, thing), False, thing)

    def test_any_values(self):
        for cloth in (Cloth(("x-", "-x")), Cloth(("xx", "-x")), Cloth(("x",))):
            for value in some_values(22, 400):
                self.assertIs(holding_holds(cloth, value), is_right_paper(cloth, value))

    def test_changed_papers(self):
        rng = random.Random(23)
        for seed in range(60):
            cloth = random_cloth(rng, 5, 5)
            for value in changed_values(seed, judge_holding(cloth), 60):
                self.assertIs(holding_holds(cloth, value), is_right_paper(cloth, value), value)

    def test_every_lot(self):
        rng = random.Random(24)
        for _ in range(30):
            cloth = random_cloth(rng, 3, 4)
            row = strands(cloth)
            some = False
            for many in range(len(row) + 1):
                for lot in itertools.combinations(row, many):
                    told = holding_holds(cloth, ("apart", lot))
                    self.assertIs(told, is_right_paper(cloth, ("apart", lot)))
                    some = some or told
            self.assertEqual(some, not does_hold(cloth))


class ByLettersTest(unittest.TestCase):

    def test_examples(self):
        self.assertIs(do_hold(PLAIN, "a"), False)
        self.assertIs(do_hold(PLAIN, "ab"), True)
        self.assertIs(do_hold(loom=PLAIN, letters=""), False)
        self.assertEqual(letter_levels(DOUBLE, "abcd"),
                         ((("letter", "a"), ("letter", "b"), ("shaft", 0), ("shaft", 1)),
                          (("letter", "c"), ("letter", "d"), ("shaft", 2), ("shaft", 3))))

    def test_letters_of(self):
        self.assertEqual(letters_of("badab"), "abd")
        self.assertEqual(letters_of(treadling=""), "")

    def test_edges(self):
        self.assertEqual(letter_levels(PLAIN, "a"), ((("shaft", 0),), (("letter", "a"),), (("shaft", 1),)))
        self.assertEqual(letter_levels(loom=LOOSE, letters="c"), ((("shaft", 0), ("shaft", 1)), (("letter", "c"),)))
        empty = Loom(3, (1, 1), ((), (0, 2)))
        self.assertEqual(letter_levels(empty, "ab"), ((("letter", "a"), ("letter", "b")), (("shaft", 1),)))
        same = Loom(2, (0, 1), ((0,), (1,), (0,)))
        self.assertEqual(len(letter_levels(same, "abc")), 1)
        self.assertIs(do_hold(same, "ac"), False)

    def test_by_the_set_of_letters(self):
        rng = random.Random(25)
        for _ in range(400):
            loom = random_loom(rng)
            word = random_word(rng, loom.letters, 9) + rng.choice(loom.letters)
            cloth = woven(loom, word)
            levels = letter_levels(loom, letters_of(word))
            self.assertEqual(len(levels), len(levels_of(cloth)))
            self.assertIs(do_hold(loom, letters_of(word)), does_hold(cloth))
            where = {row: number for number, level in enumerate(levels) for row in level}
            self.assertTrue(all(is_sorted(level) for level in levels))
            self.assertEqual(set(where), {("letter", x) for x in word} | {("shaft", s) for s in loom.threading})
            for place, letter in enumerate(word):
                self.assertEqual(level_of(cloth, ("pick", place)), where[("letter", letter)])
            for end, shaft in enumerate(loom.threading):
                self.assertEqual(level_of(cloth, ("end", end)), where[("shaft", shaft)])


if __name__ == "__main__":
    unittest.main()
