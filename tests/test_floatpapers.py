"""Papers of floats: points 27 and 28."""

import itertools
import random
import unittest

from loomhold.charts import Chart
from loomhold.floatpapers import floats_hold, judge_floats, judge_within, within_holds
from loomhold.floats import greatest_float
from loomhold.looms import Loom
from loomhold.scripts import chart_of
from tests.helpers import (
    DOUBLE, LOOSE, PLAIN, all_changed, changed_values, fitting, is_sorted, is_true_int, lets, some_values, treadlings_to, useful_told,
    with_another_row, words_to)
from tests.test_floats import ALL, STEPS, float_of, lift_told, told_greatest
from tests.test_holding import NONE, ODD, ONCE
from tests.test_holdpapers import led

STEPS_ROWS = ((0, 0, "down", 1), (0, 0, "up", 0), (0, 1, "down", 0), (0, 1, "up", 1),
              (1, 0, "down", 0), (1, 0, "up", 1), (1, 1, "down", 1), (1, 1, "up", 0))


def side_told(loom, letter, shaft):
    return "up" if shaft in lift_told(loom, letter) else "down"


def is_right_within(loom, chart, thing):
    """Tell whether a value is a paper "within", as point 27 words it."""
    if type(thing) is not tuple or len(thing) != 3 or type(thing[0]) is not str or thing[0] != "within":
        return False
    if not is_true_int(thing[1]) or thing[1] < 0 or type(thing[2]) is not tuple:
        return False
    for row in thing[2]:
        if type(row) is not tuple or len(row) != 4 or type(row[2]) is not str:
            return False
        if not all(is_true_int(row[k]) for k in (0, 1, 3)) or not 0 <= row[3] <= thing[1]:
            return False
    useful = useful_told(chart)
    runs = {row[:3]: row[3] for row in thing[2]}
    asked = {(state, shaft, side) for state in useful for shaft in loom.threading for side in ("up", "down")}
    if not is_sorted(thing[2]) or len(runs) != len(thing[2]) or set(runs) != asked:
        return False
    for state, letter, target in chart.moves:
        if state in useful and target in useful:
            for shaft in loom.threading:
                side = side_told(loom, letter, shaft)
                if runs[(target, shaft, side)] < runs[(state, shaft, side)] + 1:
                    return False
    return True


def is_right_floats_paper(loom, chart, thing):
    """Tell whether a value is a paper of judge_floats, as point 27 words it."""
    if type(thing) is tuple and len(thing) == 6 and type(thing[0]) is str and thing[0] == "ring":
        _, ahead, loop, behind, shaft, side = thing
        if not all(type(word) is str for word in (ahead, loop, behind, side)) or loop == "":
            return False
        if not is_true_int(shaft) or shaft not in loom.threading:
            return False
        state = led(chart, 0, ahead)
        if state is None or led(chart, state, loop) != state or led(chart, state, behind) not in chart.ends:
            return False
        return all(side_told(loom, letter, shaft) == side for letter in loop)
    return is_right_within(loom, chart, thing)


def is_right_within_paper(loom, chart, number, thing):
    """Tell whether a value is a paper of judge_within, as point 27 words it."""
    if type(thing) is tuple and len(thing) == 5 and type(thing[0]) is str and thing[0] == "beyond":
        _, word, shaft, side, start = thing
        if type(word) is not str or type(side) is not str or not is_true_int(shaft) or not is_true_int(start):
            return False
        if not lets(chart, word) or shaft not in loom.threading or not 0 <= start < len(word):
            return False
        many = 0
        while start + many < len(word) and side_told(loom, word[start + many], shaft) == side:
            many += 1
        return many > number
    return is_right_within(loom, chart, thing) and thing[1] <= number


class FloatsPaperTest(unittest.TestCase):

    def test_examples(self):
        self.assertIs(floats_hold(PLAIN, ALL, ("ring", "", "a", "", 0, "up")), True)
        self.assertEqual(judge_floats(PLAIN, ALL)[0], "ring")
        self.assertEqual(judge_floats(PLAIN, STEPS), ("within", 1, STEPS_ROWS))
        self.assertIs(floats_hold(PLAIN, STEPS, ("within", 1, STEPS_ROWS)), True)
        self.assertIs(within_holds(PLAIN, ALL, 2, ("beyond", "aaa", 1, "down", 0)), True)
        self.assertEqual(judge_within(PLAIN, ALL, 2)[0], "beyond")

    def test_without_treadlings(self):
        for chart in (NONE, Chart("a", 1, ((0, "a", 0),), ())):
            self.assertEqual(judge_floats(loom=PLAIN, chart=chart), ("within", 0, ()))
            self.assertEqual(judge_within(loom=PLAIN, chart=chart, number=0), ("within", 0, ()))
            for number in (0, 5, 10 ** 39):
                self.assertIs(floats_hold(loom=PLAIN, chart=chart, thing=("within", number, ())), True)
                self.assertIs(within_holds(loom=PLAIN, chart=chart, number=4, thing=("within", number, ())), number == 0)
            for thing in (("within", 0, ((0, 0, "up", 0),)), ("within", -1, ()), ("within", False, ()), ("ring", "", "a", "", 0, "up"),
                          ("beyond", "", 0, "up", 0)):
                self.assertIs(floats_hold(PLAIN, chart, thing), False)
                self.assertIs(within_holds(PLAIN, chart, 3, thing), False)

    def test_a_greatest_float_of_nought(self):
        chart = Chart("a", 1, (), (0,))
        rows = ((0, 0, "down", 0), (0, 0, "up", 0), (0, 1, "down", 0), (0, 1, "up", 0))
        self.assertEqual(judge_floats(PLAIN, chart), ("within", 0, rows))
        self.assertEqual(judge_within(PLAIN, chart, 0), ("within", 0, rows))
        self.assertIs(within_holds(PLAIN, chart, 0, ("beyond", "", 0, "up", 0)), False)

    def test_one_by_one(self):
        rng = random.Random(251)
        kinds = set()
        for _ in range(300):
            loom, chart = fitting(rng, 4, 3)
            before = (str(loom), str(chart))
            number = told_greatest(loom, chart)
            paper = judge_floats(loom, chart)
            self.assertTrue(is_right_floats_paper(loom, chart, paper))
            self.assertIs(floats_hold(loom, chart, paper), True)
            if number is None:
                self.assertEqual(paper[0], "ring")
            else:
                self.assertEqual(paper[:2], ("within", number))
                self.assertIs(floats_hold(loom, chart, ("within", number - 1, paper[2])), False)
            for most in (0, 1, 2, 3, 7, 40):
                paper = judge_within(loom, chart, most)
                self.assertTrue(is_right_within_paper(loom, chart, most, paper))
                self.assertIs(within_holds(loom, chart, most, paper), True)
                self.assertEqual(paper[0] == "within", number is not None and number <= most)
                kinds.add((paper[0], number is None))
            self.assertEqual(before, (str(loom), str(chart)))
            self.assertEqual(judge_floats(loom, chart), judge_floats(loom, chart))
        self.assertEqual(kinds, {("within", False), ("beyond", False), ("beyond", True)})

    def test_never_both(self):
        rng = random.Random(252)
        for _ in range(40):
            loom, chart = fitting(rng, 3, 2)
            within = judge_floats(loom, chart)[0] == "within"
            words = words_to("ab", 2)
            rings = [("ring", ahead, loop, behind, shaft, side) for ahead, loop, behind in itertools.product(words, words, words)
                     for shaft in range(loom.shafts) for side in ("up", "down")]
            found = [ring for ring in rings if floats_hold(loom, chart, ring)]
            self.assertEqual(found, [ring for ring in rings if is_right_floats_paper(loom, chart, ring)])
            self.assertTrue(not within or found == [])
            for number in (0, 1, 2):
                papers = [("beyond", word, shaft, side, start) for word in treadlings_to(chart, 4) for shaft in range(loom.shafts)
                          for side in ("up", "down") for start in range(-1, 5)]
                found = [paper for paper in papers if within_holds(loom, chart, number, paper)]
                self.assertEqual(found, [paper for paper in papers if is_right_within_paper(loom, chart, number, paper)])
                self.assertTrue(judge_within(loom, chart, number)[0] == "beyond" or found == [])
                self.assertEqual(any(float_of(loom, word) > number for word in treadlings_to(chart, 4)), found != [])

    def test_papers_of_others(self):
        far = tuple((*row[:3], row[3] + 10 ** 30) for row in STEPS_ROWS)
        for number, rows, told in ((1, STEPS_ROWS, True), (2, STEPS_ROWS, True), (10 ** 39, STEPS_ROWS, True), (0, STEPS_ROWS, False),
                                   (10 ** 30 + 1, far, True), (10 ** 30, far, False)):
            self.assertIs(floats_hold(PLAIN, STEPS, ("within", number, rows)), told)
            self.assertIs(within_holds(PLAIN, STEPS, number, ("within", number, rows)), told)
            self.assertIs(within_holds(PLAIN, STEPS, max(0, number - 1), ("within", number, rows)), False)
        more = tuple((*row[:3], row[3] * 3 + row[0]) for row in STEPS_ROWS)
        self.assertIs(floats_hold(PLAIN, STEPS, ("within", 4, more)), is_right_within(PLAIN, STEPS, ("within", 4, more)))
        for thing, told in ((("ring", "abab", "bb", "a", 1, "up"), True), (("ring", "abab", "bb", "a", 0, "down"), True),
                            (("ring", "", "ab", "", 0, "up"), False), (("ring", "", "b", "", 0, "up"), False),
                            (("ring", "b" * 50, "a" * 60, "ab", 1, "down"), True)):
            self.assertIs(floats_hold(PLAIN, ALL, thing), told, thing)
        # The float may have begun ahead of the pick, and go on behind what is asked.
        for start, told in ((0, False), (1, True), (2, True), (3, True), (4, False), (5, False), (-1, False), (10 ** 39, False)):
            self.assertIs(within_holds(PLAIN, ALL, 2, ("beyond", "baaaaab", 0, "up", start)), told)

    def test_wrong_ones(self):
        rows = STEPS_ROWS
        for at in range(len(rows)):
            self.assertIs(floats_hold(PLAIN, STEPS, ("within", 1, rows[:at] + rows[at + 1:])), False)
            self.assertIs(floats_hold(PLAIN, STEPS, ("within", 1, rows[:at] + rows[at:at + 1] + rows[at:])), False)
            for other in ((*rows[at][:3], 1 - rows[at][3]), (*rows[at][:3], bool(rows[at][3])), list(rows[at]), (*rows[at], 0),
                          rows[at][:3], (bool(rows[at][0]), *rows[at][1:]), (rows[at][0], bool(rows[at][1]), *rows[at][2:]),
                          (2, *rows[at][1:]), (rows[at][0], 2, *rows[at][2:]), (*rows[at][:2], "side", rows[at][3]), None,
                          (*rows[at][:2], [rows[at][2]], rows[at][3]), (*rows[at][:3], -1)):
                thing = ("within", 1, (*rows[:at], other, *rows[at + 1:]))
                self.assertIs(floats_hold(PLAIN, STEPS, thing), False, thing)
                self.assertIs(within_holds(PLAIN, STEPS, 1, thing), False, thing)
            # As many rows as there should be, but one state, shaft and side twice, and another one not at all.
            for other in rows[:at] + rows[at + 1:]:
                for run in range(5):
                    thing = ("within", 9, tuple(sorted([*rows[:at], *rows[at + 1:], (*other[:3], run)])))
                    self.assertIs(floats_hold(PLAIN, STEPS, thing), False, thing)
                    self.assertIs(within_holds(PLAIN, STEPS, 9, thing), False, thing)
        twice = ("within", 3, tuple(sorted([*rows, (0, 0, "down", 2)])))
        wrong = [twice, ("within", 1, rows[::-1]), ("within", 1, list(rows)), ["within", 1, rows], ("within", True, rows), ("within", "1", rows),
                 ("within", 1), ("within", 1, rows, ()), ("with", 1, rows), ("within", rows, 1), rows, None,
                 ("within", 1, tuple(sorted([*rows[1:], (0, 0, "down", 0)]))), ("beyond", "ab", 0, "up", 0)]
        for thing in wrong:
            self.assertIs(floats_hold(PLAIN, STEPS, thing), False, thing)
            self.assertIs(within_holds(PLAIN, STEPS, 1, thing), False, thing)
        for thing in (("ring", "", "a", "", 0, "down"), ("ring", "", "", "", 0, "up"), ("ring", "", "a", "", False, "up"),
                      ("ring", "", "a", "", 2, "up"), ("ring", "", "a", "", -2, "up"), ("ring", "", "a", "", 0, ["up"]),
                      ["ring", "", "a", "", 0, "up"], ("ring", "", "a", "", 0), ("ring", "", "a", "", 0, "up", 0), ("ring", "", ["a"], "", 0, "up"),
                      ("ring", "c", "a", "", 0, "up"), ("ring", "", "a", "c", 0, "up"), ("ring", "", "a", None, 0, "up"), ("ring", 0, "a", "", 0, "up"),
                      ("ring", "", "a", "", 0, "side"), ("ring", "", "a", "", (0,), "up")):
            self.assertIs(floats_hold(PLAIN, ALL, thing), False, thing)
        for thing in (("beyond", "aaa", 0, "down", 0), ("beyond", "aa", 0, "up", 0), ("beyond", "aaa", 0, "up", 1), ("beyond", "aaa", False, "up", 0),
                      ("beyond", "aaa", 0, "up", False), ["beyond", "aaa", 0, "up", 0], ("beyond", "aaa", 0, "up"), ("beyond", "aac", 0, "up", 0),
                      ("beyond", "aaa", 2, "up", 0), ("beyond", "aaa", 0, "up", 0, 0), ("beyond", ["a"] * 3, 0, "up", 0), ("beyond", "aaa", 0, "up", -3),
                      ("beyond", "aaba", 0, "up", 0), ("beyond", "aaa", 0, None, 0), ("ring", "", "a", "", 0, "up")):
            self.assertIs(within_holds(PLAIN, ALL, 2, thing), False, thing)
        # A treadling of the chart is asked, and a ring behind which an end comes.
        self.assertIs(within_holds(PLAIN, chart_of("aaab", "ab"), 2, ("beyond", "aaa", 0, "up", 0)), False)
        self.assertIs(within_holds(PLAIN, chart_of("aaab", "ab"), 2, ("beyond", "aaab", 0, "up", 0)), True)
        chart = Chart("ab", 3, ((0, "a", 1), (0, "b", 2), (1, "a", 1)), (2,))
        self.assertIs(floats_hold(PLAIN, chart, ("ring", "a", "a", "", 0, "up")), False)
        self.assertEqual(greatest_float(PLAIN, chart), 1)

    def test_rows_of_useful_states_and_used_shafts_alone(self):
        loom = Loom(4, (3, 1), ((1,), (3,), (), (0, 1)))
        paper = judge_floats(loom, ODD)
        self.assertEqual({row[:3] for row in paper[2]}, {(s, k, side) for s in (0, 1) for k in (1, 3) for side in ("up", "down")})
        for row in ((2, 1, "up", 0), (3, 1, "up", 0), (0, 0, "up", 0), (0, 2, "up", 0)):
            self.assertIs(floats_hold(loom, ODD, ("within", 1, tuple(sorted([*paper[2], row])))), False)

    def test_any_and_changed_papers(self):
        values = some_values(253, 200)
        rng = random.Random(254)
        for loom, chart in ((PLAIN, STEPS), (PLAIN, ALL), (LOOSE, ONCE), (PLAIN, NONE)):
            for value in values:
                self.assertIs(floats_hold(loom, chart, value), is_right_floats_paper(loom, chart, value), value)
                self.assertIs(within_holds(loom, chart, 2, value), is_right_within_paper(loom, chart, 2, value), value)
        for seed in range(60):
            loom, chart = fitting(rng, 2, 2)
            paper = judge_floats(loom, chart)
            more = [(*paper[:2], rows) for rows in with_another_row(paper[2])] if paper[0] == "within" else []
            for value in [*changed_values(seed, paper, 30), *all_changed(paper), *more]:
                self.assertIs(floats_hold(loom, chart, value), is_right_floats_paper(loom, chart, value), value)
            for number in (0, 1, 3):
                paper = judge_within(loom, chart, number)
                for value in [*changed_values(seed, paper, 20), *all_changed(paper)]:
                    self.assertIs(within_holds(loom, chart, number, value), is_right_within_paper(loom, chart, number, value), value)

    def test_sizes_at_the_limits(self):
        rng = random.Random(255)
        for _ in range(40):
            moves = tuple((s, x, rng.randrange(6)) for s in range(6) for x in "abcd" if rng.random() < 0.3)
            chart = Chart("abcd", 6, moves, (3, 4))
            paper = judge_floats(DOUBLE, chart)
            self.assertIs(floats_hold(DOUBLE, chart, paper), True)
            for number in (0, 3, 40):
                self.assertIs(within_holds(DOUBLE, chart, number, judge_within(DOUBLE, chart, number)), True)


if __name__ == "__main__":
    unittest.main()
