"""Charts put together: point 14."""

import random
import unittest

from loomhold.chartpapers import is_least_chart
from loomhold.charts import Chart, many_treadlings
from loomhold.errors import LoomError
from loomhold.joining import again, alone, backward, both, either, is_part, one_behind, without
from loomhold.scripts import chart_of
from tests.helpers import language, random_chart, words_to

NONE = Chart("c", 1, (), ())
MOST = 5


def of_two(name, one, other):
    """The set of the treadlings, with at most MOST letters, of two charts put together, told word by word."""
    first = language(one, "abc", MOST)
    second = language(other, "abc", MOST)
    if name == "both":
        return first & second
    if name == "either":
        return first | second
    if name == "without":
        return first - second
    return {word + behind for word in first for behind in second if len(word + behind) <= MOST}


def of_again(chart):
    """The same for any number of treadlings one behind the other."""
    row = language(chart, "abc", MOST)
    found = {""}
    while True:
        more = {word + behind for word in found for behind in row if len(word + behind) <= MOST} - found
        if not more:
            return found
        found |= more


class JoiningTest(unittest.TestCase):

    def test_examples(self):
        told = Chart("ab", 2, ((0, "a", 0), (0, "b", 1), (1, "a", 1), (1, "b", 1)), (1,))
        self.assertEqual(without(chart_of("([a|b])*", "ab"), chart_of("(a)*", "ab")), told)
        self.assertEqual(backward(chart_of("(a)*b", "ab")), Chart("ab", 2, ((0, "b", 1), (1, "a", 1)), (1,)))

    def test_word_by_word(self):
        rng = random.Random(51)
        calls = {"both": both, "either": either, "without": without, "one_behind": one_behind}
        for _ in range(150):
            one = random_chart(rng, 4, "ab")
            other = random_chart(rng, 4, rng.choice(["ab", "abc"]))
            letters = "".join(sorted(set(one.letters + other.letters)))
            for name, call in calls.items():
                chart = call(one, other)
                self.assertEqual(chart, call(one=one, other=other))
                self.assertEqual(chart.letters, letters)
                self.assertTrue(is_least_chart(chart))
                self.assertEqual(language(chart, "abc", MOST), of_two(name, one, other), name)
            self.assertIs(is_part(one, other), not any(many_treadlings(without(one, other), n) for n in range(40)))

    def test_of_one_chart(self):
        rng = random.Random(52)
        for _ in range(200):
            chart = random_chart(rng, 4, "abc")
            for made, told in ((again(chart), of_again(chart)),
                               (backward(chart=chart), {word[::-1] for word in language(chart, "abc", MOST)})):
                self.assertEqual(made.letters, chart.letters)
                self.assertTrue(is_least_chart(made))
                self.assertEqual(language(made, "abc", MOST), told)
            self.assertEqual(again(chart=again(chart)), again(chart))

    def test_charts_without_treadlings(self):
        some = chart_of("ab", "ab")
        nothing = Chart("abc", 1, (), ())
        self.assertEqual(both(some, NONE), nothing)
        self.assertEqual(either(some, NONE), Chart("abc", 3, ((0, "a", 1), (1, "b", 2)), (2,)))
        self.assertEqual(without(some, NONE), Chart("abc", 3, ((0, "a", 1), (1, "b", 2)), (2,)))
        self.assertEqual(without(NONE, some), nothing)
        self.assertEqual(one_behind(some, NONE), nothing)
        self.assertEqual(one_behind(NONE, some), nothing)
        self.assertEqual(again(NONE), Chart("c", 1, (), (0,)))
        self.assertEqual(backward(NONE), NONE)
        self.assertIs(is_part(NONE, some), True)
        self.assertIs(is_part(some, NONE), False)
        self.assertIs(is_part(one=NONE, other=Chart("z", 1, (), ())), True)

    def test_letters_that_no_move_has(self):
        one = Chart("ax", 1, ((0, "a", 0),), (0,))
        other = Chart("by", 1, (), (0,))
        for call in (both, either, without, one_behind):
            self.assertEqual(call(one, other).letters, "abxy")
        self.assertEqual(again(one).letters, "ax")
        self.assertEqual(backward(other), other)

    def test_again_comes_back_to_the_first_state(self):
        # The state 0 is no end, but is come to again: that is not the empty string.
        chart = Chart("ab", 2, ((0, "a", 0), (0, "b", 1)), (1,))
        self.assertEqual(language(again(chart), "ab", 3), {"", "b", "ab", "bb", "aab", "abb", "bab", "bbb"})

    def test_is_part(self):
        self.assertIs(is_part(chart_of("(ab)*", "ab"), chart_of("([a|b])*", "abc")), True)
        self.assertIs(is_part(chart_of("([a|b])*", "abc"), chart_of("(ab)*", "ab")), False)
        rng = random.Random(53)
        for _ in range(200):
            one = random_chart(rng, 3, "ab")
            other = random_chart(rng, 2, "ab", full=1)
            told = language(one, "ab", 6) <= language(other, "ab", 6)
            self.assertIs(is_part(one, other), told)

    def test_limits(self):
        moves = tuple((state, letter, (state + place) % 4) for state in range(4) for place, letter in enumerate("abcd"))
        chart = Chart("abcd", 4, moves, (3,))
        other = Chart("abcd", 4, tuple((s, x, (t * 3 + 1) % 4) for s, x, t in moves), (1, 2))
        for call in (both, either, without, one_behind):
            self.assertTrue(is_least_chart(call(chart, other)))
        worst = Chart("ab", 4, ((0, "a", 0), (0, "b", 1), (1, "a", 2), (1, "b", 2), (2, "a", 3), (2, "b", 3)), (3,))
        self.assertTrue(is_least_chart(backward(worst)))
        self.assertTrue(is_least_chart(again(other)))

    def test_alone(self):
        self.assertEqual(alone("ab", ""), Chart("ab", 1, (), (0,)))
        self.assertEqual(alone(letters="abz", word="ba"), Chart("abz", 3, ((0, "b", 1), (1, "a", 2)), (2,)))
        word = "abcd" * 15
        chart = alone("abcd", word)
        self.assertEqual(chart.states, 61)
        self.assertTrue(is_least_chart(chart))
        self.assertEqual(backward(backward(chart)), chart)
        self.assertEqual(both(chart, chart), chart)
        for other in words_to("ab", 3):
            self.assertEqual(language(alone("ab", other), "ab", 4), {other})

    def test_charts_stay_as_they_were(self):
        one = Chart("ab", 2, ((0, "a", 1), (1, "b", 0)), (1,))
        other = Chart("ab", 2, ((0, "b", 1), (1, "b", 0)), (0,))
        texts = (str(one), str(other))
        for call in (both, either, without, one_behind, is_part):
            call(one, other)
        again(one)
        backward(one)
        self.assertEqual((str(one), str(other)), texts)

    def test_wrong_letters(self):
        with self.assertRaises(LoomError):
            alone("ba", "")


if __name__ == "__main__":
    unittest.main()
