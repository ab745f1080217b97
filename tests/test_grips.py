"""The grip of a chart: point 25."""

import itertools
import random
import unittest

from loomhold.charts import Chart
from loomhold.grips import first_slip, grip, grip_holds, judge_grip
from loomhold.looms import Loom
from loomhold.scripts import chart_of
from tests.helpers import LOOSE, PLAIN, all_changed, changed_values, fitting, is_true_int, some_values, useful_told, with_another_row, words_to
from tests.test_holding import ANY, NONE, ODD, ONCE, TURNS, does_fall
from tests.test_holdpapers import all_spots, are_right_rows, led, numbered


def stretches(chart, length):
    """The stretches of so many letters, in order, told from each useful state."""
    useful = useful_told(chart)
    row = [("", state) for state in useful]
    for _ in range(length):
        row = [(word + sign, target) for word, state in row for here, sign, target in chart.moves
               if here == state and target in useful]
    return sorted({word for word, _ in row})


def is_right_grip_paper(loom, chart, thing):
    """Tell whether a value is a paper as point 25 words it."""
    if type(thing) is not tuple or len(thing) == 0 or type(thing[0]) is not str:
        return False
    if thing[0] == "slips" and len(thing) == 6:
        if not all(type(word) is str for word in thing):
            return False
        _, ahead, begin, loop, end, behind = thing
        first = led(chart, 0, ahead)
        state = None if first is None else led(chart, first, begin)
        if loop == "" or not set(loop) <= set(begin) or state is None or led(chart, state, loop) != state:
            return False
        last = led(chart, state, end)
        return last is not None and led(chart, last, behind) in chart.ends and does_fall(loom, begin + end)
    if thing[0] != "grip" or len(thing) != 3 or not is_true_int(thing[1]) or thing[1] < 1:
        return False
    starts = [(state, "") for state in useful_told(chart)]
    return are_right_rows(chart, thing[2], starts, thing[1], lambda spot: does_fall(loom, spot[1]))


def told_grip(loom, chart):
    """The grip, told by which sets of letters stretches of each length have."""
    useful = useful_told(chart)
    spots = {(state, "") for state in useful}
    most = 2 * (len(useful) + 1) * 2 ** len(chart.letters)
    last = 0
    for length in range(most):
        if any(does_fall(loom, letters) for _, letters in spots):
            last = length
        spots = {(target, "".join(sorted(set(letters) | {sign}))) for state, letters in spots
                 for here, sign, target in chart.moves if here == state and target in useful}
    return None if last >= most // 2 else last + 1


class GripTest(unittest.TestCase):

    def test_examples(self):
        self.assertEqual(grip(PLAIN, TURNS), 2)
        paper = ("grip", 2, ((0, "", 1), (0, "ab", -1), (0, "b", 0), (1, "", 1), (1, "a", 0), (1, "ab", -1)))
        self.assertEqual(judge_grip(PLAIN, TURNS), paper)
        self.assertIs(grip_holds(PLAIN, TURNS, paper), True)
        self.assertIs(grip_holds(PLAIN, ANY, ("slips", "", "a", "a", "", "")), True)
        self.assertEqual(judge_grip(PLAIN, ANY)[0], "slips")
        self.assertIs(grip_holds(LOOSE, ONCE, ("slips", "", "cab", "ab", "", "")), True)
        self.assertIsNone(grip(LOOSE, ONCE))

    def test_without_treadlings(self):
        self.assertEqual(grip(PLAIN, NONE), 1)
        self.assertEqual(judge_grip(PLAIN, NONE), ("grip", 1, ()))
        self.assertIsNone(first_slip(PLAIN, NONE, 1))
        for thing, told in ((("grip", 1, ()), True), (("grip", 10 ** 39, ()), True), (("grip", 0, ()), False),
                            (("grip", True, ()), False), (("grip", 1, ((0, "", 0),)), False), (("slips", "", "a", "a", "", ""), False)):
            self.assertIs(grip_holds(PLAIN, NONE, thing), told)

    def test_the_empty_treadling_alone(self):
        chart = Chart("a", 1, (), (0,))
        self.assertEqual(grip(loom=PLAIN, chart=chart), 1)
        self.assertEqual(judge_grip(loom=PLAIN, chart=chart), ("grip", 1, ((0, "", 0),)))
        self.assertIs(grip_holds(PLAIN, chart, thing=("grip", 1, ((0, "", -1),))), False)
        self.assertIsNone(first_slip(loom=PLAIN, chart=chart, length=1))

    def test_useful_moves_alone(self):
        loom = Loom(2, (0, 1), ((0,), (1,), (), (0, 1)))
        self.assertEqual(grip(loom, ODD), 2)
        self.assertEqual([first_slip(loom, ODD, n) for n in (1, 2, 3)], ["a", None, None])

    def test_a_pick_of_begin_alone(self):
        # By c all ends lie above: cab, cabab and so on fall, though ab holds by itself.
        self.assertEqual([first_slip(LOOSE, ONCE, n) for n in range(1, 6)], ["a", "ca", "cab", "caba", "cabab"])
        for thing, told in ((("slips", "c", "ab", "ab", "", ""), False), (("slips", "", "cab", "abab", "ab", ""), True),
                            (("slips", "", "cab", "ab", "a", "b"), True), (("slips", "", "c", "ab", "", ""), False),
                            (("slips", "c", "a", "ba", "", "b"), False), (("slips", "", "ca", "ba", "", "b"), False),
                            (("slips", "", "cab", "ab", "a", ""), False), (("slips", "", "cab", "abb", "", ""), False)):
            self.assertIs(grip_holds(LOOSE, ONCE, thing), told, thing)
        chart = chart_of("(ab)*c", "abc")
        self.assertIs(grip_holds(LOOSE, chart, ("slips", "ab", "ab", "ab", "c", "")), True)
        self.assertIs(grip_holds(LOOSE, chart, ("slips", "ab", "ab", "ab", "abc", "")), True)
        self.assertIs(grip_holds(LOOSE, chart, ("slips", "ab", "ab", "ab", "", "c")), False)

    def test_the_first_stretch(self):
        chart = chart_of("(aab)*[b|ba]", "ab")
        for length in range(1, 6):
            falls = [word for word in stretches(chart, length) if does_fall(PLAIN, word)]
            self.assertEqual(first_slip(PLAIN, chart, length), falls[0] if falls else None)
        # It may begin at any useful state: b comes behind a here, and stands ahead of no other letter.
        self.assertEqual(first_slip(PLAIN, chart_of("abb", "ab"), 2), "bb")
        self.assertEqual(first_slip(PLAIN, chart_of("ba", "ab"), 1), "a")

    def test_one_by_one(self):
        rng = random.Random(231)
        told = {}
        for _ in range(250):
            loom, chart = fitting(rng, 3, 2)
            number = told_grip(loom, chart)
            told[number] = told.get(number, 0) + 1
            self.assertEqual(grip(loom, chart), number)
            paper = judge_grip(loom, chart)
            self.assertIs(grip_holds(loom, chart, paper), True)
            self.assertTrue(is_right_grip_paper(loom, chart, paper))
            for length in range(1, 8):
                falls = [word for word in stretches(chart, length) if does_fall(loom, word)]
                self.assertEqual(first_slip(loom, chart, length), falls[0] if falls else None)
                if number is not None:
                    self.assertTrue(falls == [] if length >= number else falls != [])
            if number is None:
                self.assertEqual(paper[0], "slips")
                _, ahead, begin, loop, end, behind = paper
                for many in range(4):
                    word = begin + loop * many + end
                    self.assertTrue(does_fall(loom, word))
                    self.assertIn(led(chart, 0, ahead + word + behind), chart.ends)
            else:
                self.assertEqual(paper[:2], ("grip", number))
                self.assertIs(grip_holds(loom, chart, ("grip", number - 1, paper[2])), False)
        self.assertGreater(min(told.get(number, 0) for number in (None, 1, 2, 3)), 3)

    def test_numbers_are_the_least_ones(self):
        rng = random.Random(232)
        for _ in range(80):
            loom, chart = fitting(rng, 3, 2)
            paper = judge_grip(loom, chart)
            if paper[0] == "grip":
                numbers = {row[:2]: row[2] for row in paper[2]}
                self.assertEqual(numbers, numbered(chart, list(numbers), lambda spot: does_fall(loom, spot[1])))

    def test_never_both(self):
        rng = random.Random(233)
        words = words_to("ab", 2)
        for _ in range(15):
            loom, chart = fitting(rng, 2, 2)
            rings = [("slips", *row) for row in itertools.product(words, words, words[1:], words, words[:3])]
            found = [ring for ring in rings if grip_holds(loom, chart, ring)]
            self.assertEqual(found, [ring for ring in rings if is_right_grip_paper(loom, chart, ring)])
            if judge_grip(loom, chart)[0] == "grip":
                self.assertEqual(found, [])

    def test_papers_of_others(self):
        rng = random.Random(234)
        many = 0
        for _ in range(120):
            loom, chart = fitting(rng, 3, 2)
            paper = judge_grip(loom, chart)
            if paper[0] == "slips":
                _, ahead, begin, loop, end, behind = paper
                for other in ((ahead, begin + loop, loop, end, behind), (ahead, begin, loop * 2, end, behind),
                              (ahead, begin, loop, loop + end, behind)):
                    self.assertIs(grip_holds(loom, chart, ("slips", *other)), True)
                continue
            number, rows = paper[1:]
            for more in (3, 10 ** 30):
                greater = tuple((*row[:2], row[2] + more if row[2] >= 0 else -1) for row in rows)
                self.assertIs(grip_holds(loom, chart, ("grip", number + more, greater)), True)
                self.assertIs(grip_holds(loom, chart, ("grip", number + more, rows)), True)
                if rows:
                    self.assertIs(grip_holds(loom, chart, ("grip", number + more - 1, greater)), False)
            numbers = numbered(chart, all_spots(chart), lambda spot: does_fall(loom, spot[1]))
            lot = tuple(sorted([(*spot, told) for spot, told in numbers.items() if told is not None]))
            self.assertIs(grip_holds(loom, chart, ("grip", number, lot)), True)
            many += len(lot) > len(rows)
        self.assertGreater(many, 3)

    def test_wrong_ones(self):
        rows = ((0, "", 1), (0, "ab", -1), (0, "b", 0), (1, "", 1), (1, "a", 0), (1, "ab", -1))
        for number, told in ((2, True), (3, True), (1, False), (0, False), (-2, False), (True, False), ("2", False), (None, False)):
            self.assertIs(grip_holds(PLAIN, TURNS, ("grip", number, rows)), told)
        for at in range(len(rows)):
            self.assertIs(grip_holds(PLAIN, TURNS, ("grip", 2, rows[:at] + rows[at + 1:])), False)
        wrong = [("grip", 2, rows[::-1]), ("grip", 2, rows + rows[5:]), ("grip", 2, list(rows)), ["grip", 2, rows], ("grip", 2),
                 ("grip", 2, ((0, "", 0), *rows[1:])), ("grip", 2, ((0, "", True), *rows[1:])), ("grip", 2, rows, ()),
                 ("grip", 2, (*rows[:2], (0, "b", -1), *rows[3:])), ("grip", 3, ((0, "", 1), (0, "", 2), *rows[1:])), ("from", 2, rows),
                 ("slips", "", "ab", "ab", "", ""), ("slips", "", "a", "ab", "", ""), ("slips", "", "ab", "", "", ""), None, rows, "grip"]
        for thing in wrong:
            self.assertIs(grip_holds(PLAIN, TURNS, thing), False, thing)
        for thing in (("slips", "", "a", "", "", ""), ("slips", "", "", "a", "", ""), ("slips", "", "a", "b", "", ""),
                      ("slips", "", "a", "a", "b", ""), ["slips", "", "a", "a", "", ""], ("slips", "", "a", "a", ""),
                      ("slips", "", "a", "a", "", "", ""), ("slips", "", "a", ["a"], "", ""), ("slips", "", "a", "a", None, ""),
                      ("slips", "c", "a", "a", "", ""), ("slips", "", "a", "a", "", "c"), ("slips", 0, "a", "a", "", "")):
            self.assertIs(grip_holds(PLAIN, ANY, thing), False, thing)

    def test_any_and_changed_papers(self):
        values = some_values(235, 200)
        rng = random.Random(236)
        for loom, chart in ((PLAIN, TURNS), (PLAIN, ANY), (LOOSE, ONCE), (PLAIN, NONE)):
            for value in values:
                self.assertIs(grip_holds(loom, chart, value), is_right_grip_paper(loom, chart, value), value)
        for seed in range(80):
            loom, chart = fitting(rng, 3, 2)
            paper = judge_grip(loom, chart)
            more = [(*paper[:2], rows) for rows in with_another_row(paper[2])] if paper[0] == "grip" else []
            for value in [*changed_values(seed, paper, 40), *all_changed(paper), *more]:
                self.assertIs(grip_holds(loom, chart, value), is_right_grip_paper(loom, chart, value), value)

    def test_sizes_at_the_limits(self):
        rng = random.Random(237)
        loom = Loom(4, (0, 1, 2, 3) * 3, ((0, 1), (1, 2), (2, 3), (0, 3)))
        for _ in range(15):
            moves = tuple((s, x, rng.randrange(6)) for s in range(6) for x in "abcd" if rng.random() < 0.6)
            chart = Chart("abcd", 6, moves, (5,))
            paper = judge_grip(loom, chart)
            self.assertIs(grip_holds(loom, chart, paper), True)
            number = grip(loom, chart)
            self.assertEqual(number, told_grip(loom, chart))
            slip = first_slip(loom, chart, 60)
            self.assertEqual(slip is None, number is not None)
            self.assertTrue(slip is None or (len(slip) == 60 and does_fall(loom, slip)))
        # A long way without c and d, which are needed: the letters of the stretch a, b, a, b and so on do not hold.
        chart = chart_of("(ab)*cd(ab)*", "abcd")
        self.assertIsNone(grip(loom, chart))
        self.assertEqual(first_slip(loom, chart, 60), "ab" * 30)


if __name__ == "__main__":
    unittest.main()
