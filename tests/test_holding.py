"""Which treadlings of a chart fall, and the spots: point 22."""

import random
import time
import unittest

from loomhold.chartpapers import are_alike, is_least_chart
from loomhold.charts import Chart
from loomhold.cloths import woven
from loomhold.errors import NoTreadle
from loomhold.floatpapers import floats_hold, judge_floats, judge_within, within_holds
from loomhold.floats import floating_treadling, greatest_float, greatest_weft_float, keeps_within
from loomhold.grips import first_slip, grip, grip_holds, judge_grip
from loomhold.holding import do_all_hold, falling_chart, first_fall, many_falls, spots_met
from loomhold.holdpapers import chart_holds, judge_chart, judge_lasting, last_fall, lasting_holds, lasts_from
from loomhold.joining import both, one_behind
from loomhold.levels import does_hold
from loomhold.looms import Loom
from loomhold.scripts import chart_of
from tests.helpers import DOUBLE, LOOSE, PLAIN, fitting, lets, raised, random_chart, some_values, treadlings_to, useful_told

TURNS = chart_of("(ab)*", "ab")
ANY = chart_of("([a|b])*", "ab")
ONCE = chart_of("c(ab)*", "abc")
NONE = Chart("ab", 3, ((0, "a", 1), (2, "b", 0)), (2,))
# The moves by c and d are not useful: 2 leads to no end, and nothing leads to 3.
ODD = Chart("abcde", 4, ((0, "a", 1), (0, "c", 2), (1, "b", 0), (2, "a", 2), (3, "d", 0)), (0, 3))

WITH_CHARTS = [
    (spots_met, ()), (do_all_hold, ()), (first_fall, ()), (many_falls, (2,)), (falling_chart, ()), (judge_chart, ()), (lasts_from, ()),
    (last_fall, ()), (judge_lasting, ()), (grip, ()), (first_slip, (2,)), (judge_grip, ()), (greatest_float, ()),
    (floating_treadling, ()), (greatest_weft_float, ()), (keeps_within, (3,)), (judge_floats, ()), (judge_within, (2,))]
CHECKERS = [(chart_holds, ()), (lasting_holds, ()), (grip_holds, ()), (floats_hold, ()), (within_holds, (2,))]


def does_fall(loom, word):
    """Tell whether a treadling falls, by the cloth that it weaves."""
    return word == "" or not does_hold(woven(loom, word))


def told_spots(chart):
    """The spots that are met, as point 22 words them."""
    useful = useful_told(chart)
    met = {(0, "")} if 0 in useful else set()
    while True:
        more = {(target, "".join(sorted(set(letters) | {sign}))) for state, letters in met
                for here, sign, target in chart.moves if here == state and target in useful} - met
        if not more:
            return met
        met |= more


class HoldingTest(unittest.TestCase):

    def test_examples(self):
        self.assertEqual(TURNS, Chart("ab", 2, ((0, "a", 1), (1, "b", 0)), (0,)))
        self.assertEqual(spots_met(PLAIN, TURNS), ((0, ""), (0, "ab"), (1, "a"), (1, "ab")))
        self.assertEqual(first_fall(PLAIN, TURNS), "")
        self.assertEqual([many_falls(PLAIN, TURNS, n) for n in range(6)], [1, 0, 0, 0, 0, 0])
        self.assertEqual(many_falls(PLAIN, ANY, 3), 2)
        self.assertEqual(raised(self, NoTreadle, do_all_hold, PLAIN, ONCE).letter, "c")

    def test_by_name(self):
        self.assertEqual(spots_met(loom=PLAIN, chart=TURNS), spots_met(PLAIN, TURNS))
        self.assertIs(do_all_hold(loom=PLAIN, chart=chart_of("ab(a)*", "ab")), True)
        self.assertEqual(first_fall(loom=PLAIN, chart=ANY), "")
        self.assertEqual(many_falls(loom=PLAIN, chart=ANY, length=1), 2)
        self.assertEqual(falling_chart(loom=PLAIN, chart=TURNS), Chart("ab", 1, (), (0,)))

    def test_without_treadlings(self):
        for chart in (NONE, Chart("ab", 2, ((0, "a", 1), (1, "b", 0)), ()), Chart("z", 1, (), ())):
            self.assertEqual(spots_met(PLAIN, chart), ())
            self.assertIs(do_all_hold(PLAIN, chart), True)
            self.assertIsNone(first_fall(PLAIN, chart))
            self.assertEqual([many_falls(PLAIN, chart, n) for n in range(4)], [0, 0, 0, 0])
            self.assertEqual(falling_chart(PLAIN, chart), Chart(chart.letters, 1, (), ()))

    def test_useful_and_other_moves(self):
        loom = Loom(2, (0, 1), ((0,), (1,), (), (0, 1)))
        self.assertEqual(spots_met(loom, ODD), ((0, ""), (0, "ab"), (1, "a"), (1, "ab")))
        self.assertEqual(falling_chart(loom, ODD), Chart("abcde", 1, (), (0,)))
        # e is a letter of the chart that no move has: the loom need not have it.
        self.assertEqual(first_fall(loom, ODD), "")
        self.assertEqual(raised(self, NoTreadle, spots_met, PLAIN, ODD).letter, "c")

    def test_spots_that_do_not_fall_are_taken_to_ones_that_do(self):
        chart = chart_of("ab[|c]", "abc")
        self.assertIs(do_all_hold(LOOSE, chart), False)
        self.assertEqual(first_fall(LOOSE, chart), "abc")
        self.assertEqual([many_falls(LOOSE, chart, n) for n in range(5)], [0, 0, 0, 1, 0])
        # And the other way round: a alone does not hold, ab does.
        self.assertEqual(first_fall(LOOSE, chart_of("a[|b]", "ab")), "a")

    def test_picks_above_and_below_all_ends(self):
        loom = Loom(3, (0, 1, 0), ((0,), (1,), (2,), (0, 1)))
        for script, word in (("ab[|c]", "abc"), ("ab[|d]", "abd"), ("ab[|d]a", "abda"), ("c(ab)*", "c"), ("(ab)*d", "d")):
            self.assertEqual(first_fall(loom, chart_of(script, "abcd")), word)
        self.assertIs(do_all_hold(loom, chart_of("ab([a|b])*", "abcd")), True)

    def test_one_used_shaft(self):
        loom = Loom(3, (1, 1, 1), ((1,), (0, 2)))
        self.assertEqual(many_falls(loom, ANY, 60), 2 ** 60)
        self.assertTrue(are_alike(falling_chart(loom, ANY), ANY))

    def test_the_empty_treadling_falls(self):
        self.assertEqual(first_fall(PLAIN, Chart("a", 1, (), (0,))), "")
        self.assertEqual(first_fall(PLAIN, chart_of("[|ab]", "ab")), "")
        self.assertIsNone(first_fall(PLAIN, chart_of("ab", "ab")))

    def test_one_by_one(self):
        rng = random.Random(201)
        kinds = set()
        for _ in range(250):
            loom, chart = fitting(rng, 3, 2)
            before = (str(loom), str(chart))
            words = treadlings_to(chart, 9)
            falls = [word for word in words if does_fall(loom, word)]
            self.assertEqual(spots_met(loom, chart), tuple(sorted(told_spots(chart))))
            self.assertEqual(first_fall(loom, chart), falls[0] if falls else None)
            self.assertIs(do_all_hold(loom, chart), not falls)
            falling = falling_chart(loom, chart)
            self.assertEqual(falling.letters, chart.letters)
            self.assertIs(is_least_chart(falling), True)
            self.assertEqual([word for word in words if lets(falling, word)], falls)
            self.assertEqual(treadlings_to(falling, 9), falls)
            for length in range(10):
                self.assertEqual(many_falls(loom, chart, length), len([word for word in falls if len(word) == length]))
            self.assertEqual((str(loom), str(chart)), before)
            kinds.add((len(words) > 0, len(falls) > 0, len(falls) == len(words)))
        self.assertGreaterEqual(len(kinds), 4)

    def test_three_letters(self):
        rng = random.Random(202)
        for _ in range(80):
            loom, chart = fitting(rng, 3, 3, 4)
            falls = [word for word in treadlings_to(chart, 6) if does_fall(loom, word)]
            self.assertEqual(spots_met(loom, chart), tuple(sorted(told_spots(chart))))
            if falls:
                self.assertEqual(first_fall(loom, chart), falls[0])
            self.assertEqual([word for word in treadlings_to(falling_chart(loom, chart), 6)], falls)

    def test_sizes_at_the_limits(self):
        rng = random.Random(203)
        begin = time.monotonic()
        for _ in range(12):
            chart = Chart("abcd", 6, tuple((s, x, rng.randrange(6)) for s in range(6) for x in "abcd"), (2, 5))
            spots = spots_met(DOUBLE, chart)
            self.assertEqual(spots, tuple(sorted(told_spots(chart))))
            self.assertLessEqual(len(spots), 96)
            count = many_falls(DOUBLE, chart, 60)
            self.assertLessEqual(count, 4 ** 60)
            self.assertEqual(many_falls(DOUBLE, chart, 6),
                             len([word for word in treadlings_to(chart, 6) if len(word) == 6 and does_fall(DOUBLE, word)]))
        self.assertLess(time.monotonic() - begin, 30)

    def test_charts_that_were_returned(self):
        rng = random.Random(204)
        for _ in range(6):
            one, other = random_chart(rng, 4, "ab", full=1), random_chart(rng, 4, "ab", full=1)
            for chart in (both(one, other), one_behind(one, other), falling_chart(PLAIN, one)):
                falls = [word for word in treadlings_to(chart, 8) if does_fall(PLAIN, word)]
                self.assertEqual(treadlings_to(falling_chart(PLAIN, chart), 8), falls)


class NoTreadleTest(unittest.TestCase):

    def test_ahead_of_all_else(self):
        # The first letter as strings compare, of useful moves and of others, whatever order the moves stand in.
        charts = [(ONCE, "c"), (Chart("abcxz", 2, ((0, "z", 0), (1, "c", 1), (1, "x", 0)), (0,)), "c"),
                  (Chart("az", 1, ((0, "a", 0), (0, "z", 0)), ()), "z"), (Chart("abcd", 3, ((1, "d", 1), (2, "c", 2)), (0,)), "c"),
                  (Chart("bc", 1, ((0, "b", 0), (0, "c", 0)), (0,)), "c")]
        for chart, letter in charts:
            for call, more in WITH_CHARTS:
                self.assertEqual(raised(self, NoTreadle, call, PLAIN, chart, *more).letter, letter, call)
            for call, more in CHECKERS:
                for value in (None, ("falls", ""), ("from", 0, ()), [PLAIN], ("within", 0, ()), {}):
                    self.assertEqual(raised(self, NoTreadle, call, PLAIN, chart, *more, value).letter, letter, call)

    def test_letters_that_no_move_has(self):
        chart = Chart("abyz", 1, ((0, "a", 0), (0, "b", 0)), (0,))
        for call, more in WITH_CHARTS:
            call(PLAIN, chart, *more)
        for call, more in CHECKERS:
            self.assertIs(call(PLAIN, chart, *more, None), False)

    def test_the_same_again(self):
        rng = random.Random(205)
        for _ in range(30):
            loom, chart = fitting(rng, 3, 3)
            for call, more in WITH_CHARTS:
                self.assertEqual(call(loom, chart, *more), call(loom, chart, *more))

    def test_checkers_of_any_values(self):
        values = some_values(206, 300)
        for loom, chart in ((PLAIN, TURNS), (PLAIN, NONE), (LOOSE, ANY)):
            for call, more in CHECKERS:
                for value in values:
                    self.assertIn(call(loom, chart, *more, value), (True, False))


if __name__ == "__main__":
    unittest.main()
