"""Whether charts are alike, the papers of it, and least charts: points 12 and 13."""

import itertools
import random
import unittest

from loomhold.chartpapers import alike_holds, are_alike, first_parting, is_least_chart, judge_alike, least_chart
from loomhold.charts import Chart, first_treadling
from loomhold.scripts import chart_of
from tests.helpers import changed_values, is_sorted, language, lets, random_chart, some_values, words_to

NONE = Chart("a", 1, (), ())


def is_right_paper(one, other, thing):
    """Tell whether a value is a paper for two charts, as point 12 words it."""
    if type(thing) is not tuple or len(thing) != 2 or type(thing[0]) is not str:
        return False
    if thing[0] == "parted":
        return type(thing[1]) is str and lets(one, thing[1]) != lets(other, thing[1])
    if thing[0] != "alike" or type(thing[1]) is not tuple:
        return False
    for pair in thing[1]:
        if type(pair) is not tuple or len(pair) != 2 or type(pair[0]) is not int or type(pair[1]) is not int:
            return False
        if not (-1 <= pair[0] < one.states and -1 <= pair[1] < other.states) or pair == (-1, -1):
            return False
    if not is_sorted(thing[1]) or (0, 0) not in thing[1]:
        return False
    for s, t in thing[1]:
        if (s in one.ends) != (t in other.ends):
            return False
        for letter in "abcdefghijklmnopqrstuvwxyz":
            targets = [target for here, sign, target in one.moves if (here, sign) == (s, letter)] or [-1]
            others = [target for here, sign, target in other.moves if (here, sign) == (t, letter)] or [-1]
            if (targets[0], others[0]) not in thing[1] and (targets[0], others[0]) != (-1, -1):
                return False
    return True


class AlikeTest(unittest.TestCase):

    def test_examples(self):
        self.assertIs(are_alike(chart_of("a(ba)*", "ab"), chart_of("(ab)*a", "ab")), True)
        self.assertEqual(first_parting(chart_of("(ab)*", "ab"), chart_of("(aba)*", "ab")), "ab")
        one = Chart("a", 1, ((0, "a", 0),), (0,))
        other = Chart("ab", 2, ((0, "a", 1), (1, "a", 0)), (0, 1))
        self.assertEqual(judge_alike(one, other), ("alike", ((0, 0), (0, 1))))
        self.assertIs(alike_holds(one, other, ("alike", ((0, 0), (0, 1)))), True)

    def test_without_treadlings(self):
        other = Chart("bc", 3, ((0, "b", 1), (1, "c", 1)), (2,))
        self.assertIs(are_alike(NONE, other), True)
        self.assertEqual(judge_alike(NONE, other), ("alike", ((-1, 1), (0, 0))))
        self.assertTrue(alike_holds(NONE, other, judge_alike(NONE, other)))
        self.assertEqual(first_parting(NONE, Chart("z", 1, (), (0,))), "")
        self.assertEqual(judge_alike(one=Chart("z", 1, (), (0,)), other=NONE), ("parted", ""))

    def test_one_by_one(self):
        rng = random.Random(41)
        alike = 0
        for _ in range(400):
            one = random_chart(rng, 3, "ab")
            other = random_chart(rng, 3, "ab" if rng.random() < 0.7 else "abc")
            letters = "".join(sorted(set(one.letters + other.letters)))
            parting = [word for word in words_to(letters, 5) if lets(one, word) != lets(other, word)]
            self.assertEqual(first_parting(one, other), parting[0] if parting else None)
            self.assertIs(are_alike(one, other), not parting)
            paper = judge_alike(one, other)
            self.assertTrue(is_right_paper(one, other, paper))
            self.assertIs(alike_holds(one, other, paper), True)
            self.assertEqual(paper[0] == "alike", not parting)
            if parting:
                self.assertEqual(paper[1], parting[0])
                for word in parting[1:4]:
                    self.assertIs(alike_holds(one, other, ("parted", word)), True)
            alike += not parting
        self.assertGreater(alike, 20)

    def test_first_parting_is_short(self):
        one = Chart("a", 6, tuple((s, "a", (s + 1) % 6) for s in range(6)), (5,))
        other = Chart("a", 5, tuple((s, "a", (s + 1) % 5) for s in range(5)), (0,))
        self.assertEqual(first_parting(one, other), "")
        far = Chart("a", 6, tuple((s, "a", min(s + 1, 5)) for s in range(6)), (0, 1, 2, 3, 4))
        self.assertEqual(first_parting(far, Chart("a", 1, ((0, "a", 0),), (0,))), "aaaaa")

    def test_more_pairs_than_needed(self):
        one = Chart("a", 2, ((0, "a", 0), (1, "a", 1)), (0,))
        other = Chart("ab", 3, ((0, "a", 0), (1, "b", 1), (2, "a", 0)), (0,))
        self.assertEqual(judge_alike(one, other), ("alike", ((0, 0),)))
        for pairs in (((-1, 1), (0, 0)), ((0, 0), (1, -1)), ((-1, 1), (0, 0), (1, -1)), ((0, 0), (1, -1), (1, 1), (-1, 1))):
            told = tuple(sorted(pairs)) == pairs
            self.assertIs(alike_holds(one, other, ("alike", pairs)), told)
        self.assertIs(alike_holds(one, other, ("alike", ((-1, 1), (0, 0), (1, -1), (1, 1)))), True)
        self.assertIs(alike_holds(one, other, ("alike", ((-1, 2), (0, 0)))), False)
        self.assertIs(alike_holds(one, other, ("alike", ((0, 0), (1, 1)))), False)

    def test_wrong_ones(self):
        one = Chart("a", 1, ((0, "a", 0),), (0,))
        other = Chart("ab", 2, ((0, "a", 1), (1, "a", 0)), (0, 1))
        pairs = ((0, 0), (0, 1))
        wrong = [("alike", pairs[:1]), ("alike", pairs[1:]), ("alike", pairs[::-1]), ("alike", pairs + pairs[1:]), ["alike", pairs],
                 ("alike", list(pairs)), ("alike", ([0, 0], (0, 1))), ("alike", ((0, 0), (0, True))), ("alike", ((False, 0), (0, 1))),
                 ("alike", ((-1, -1),) + pairs), ("alike", pairs + ((0, 2),)), ("alike", pairs + ((1, 0),)), ("alike", ()),
                 ("alike", ((-2, 0),) + pairs), ("alike", pairs, ()), ("alike",), ("like", pairs), ("parted", ""), ("parted", "a"),
                 ("parted", pairs), ("parted", None), ("parted",), None, "alike", pairs, ("alike", ((0,), (0, 1))), ("alike", (0, 1))]
        for thing in wrong:
            self.assertIs(alike_holds(one, other, thing), False, thing)

    def test_pairs_of_no_states(self):
        one = Chart("a", 2, ((0, "a", 0),), (0,))
        other = Chart("a", 2, ((0, "a", 0),), (0,))
        for pair, told in (((1, 1), True), ((1, -1), True), ((-1, 1), True), ((-1, -1), False), ((2, -1), False), ((-1, 2), False),
                           ((2, 1), False), ((1, 2), False), ((-2, 1), False), ((1, -2), False), ((-2, -1), False), ((9, 9), False)):
            pairs = tuple(sorted([(0, 0), pair]))
            self.assertIs(alike_holds(one, other, ("alike", pairs)), told, pair)

    def test_pairs_that_are_uneven(self):
        rng = random.Random(46)
        parted = 0
        for _ in range(200):
            one = random_chart(rng, 3, "ab")
            other = random_chart(rng, 3, "ab")
            pairs = {(0, 0)}
            while True:
                more = {tuple(-1 if chart.led(state, letter) is None else chart.led(state, letter)
                              for chart, state in zip((one, other), pair)) for pair in pairs for letter in "ab"}
                if more - {(-1, -1)} <= pairs:
                    break
                pairs |= more - {(-1, -1)}
            told = judge_alike(one, other)[0] == "alike"
            parted += not told
            self.assertIs(alike_holds(one, other, ("alike", tuple(sorted(pairs)))), told)
        self.assertGreater(parted, 50)

    def test_any_values(self):
        one = Chart("a", 1, ((0, "a", 0),), (0,))
        other = chart_of("(ab)*", "ab")
        for first, second in ((one, one), (one, other), (other, one), (NONE, NONE)):
            for value in some_values(42, 300):
                self.assertIs(alike_holds(first, second, value), is_right_paper(first, second, value), value)
            self.assertIs(alike_holds(first, second, thing=None), False)

    def test_changed_papers(self):
        rng = random.Random(43)
        for seed in range(80):
            one = random_chart(rng, 4, "ab", full=0.8)
            other = least_chart(one) if seed % 2 else random_chart(rng, 4, "ab")
            for value in changed_values(seed, judge_alike(one, other), 50):
                self.assertIs(alike_holds(one, other, value), is_right_paper(one, other, value), value)


class LeastTest(unittest.TestCase):

    def test_without_treadlings(self):
        for chart in (NONE, Chart("abz", 4, ((0, "a", 1), (2, "b", 3)), (3,)), Chart("a", 2, ((0, "a", 1), (1, "a", 0)), ())):
            self.assertEqual(least_chart(chart), Chart(chart.letters, 1, (), ()))
        self.assertIs(is_least_chart(NONE), True)
        self.assertIs(is_least_chart(Chart("a", 1, ((0, "a", 0),), ())), False)

    def test_states_that_are_not_useful(self):
        chart = Chart("abc", 4, ((0, "a", 2), (0, "b", 1), (1, "a", 1), (3, "a", 0)), (2,))
        self.assertEqual(least_chart(chart=chart), Chart("abc", 2, ((0, "a", 1),), (1,)))
        self.assertIs(is_least_chart(chart), False)

    def test_numbering(self):
        chart = Chart("ab", 3, ((0, "a", 2), (0, "b", 1), (1, "a", 0), (2, "b", 0)), (1,))
        least = least_chart(chart)
        self.assertEqual(least, Chart("ab", 3, ((0, "a", 1), (0, "b", 2), (1, "b", 0), (2, "a", 0)), (2,)))
        self.assertIs(is_least_chart(chart=least), True)
        self.assertIs(is_least_chart(chart), False)

    def test_one_by_one(self):
        rng = random.Random(44)
        for _ in range(300):
            chart = random_chart(rng, 5, "ab")
            least = least_chart(chart)
            self.assertEqual(least.letters, chart.letters)
            self.assertEqual(language(least, "ab", 6), language(chart, "ab", 6))
            self.assertTrue(are_alike(chart, least))
            self.assertEqual(least_chart(least), least)
            self.assertIs(is_least_chart(chart), chart == least)
            words = words_to("ab", 5)
            if first_treadling(chart) is None:
                self.assertEqual(least.states, 1)
                continue
            kinds = {tuple(lets(chart, word + behind) for behind in words) for word in words}
            self.assertEqual(least.states, len({kind for kind in kinds if any(kind)}))
            firsts = []
            for state in range(least.states):
                firsts.append(next(word for word in words if least.led(0, word) == state))
            self.assertEqual(firsts, sorted(firsts, key=lambda word: (len(word), word)))

    def test_alike_charts_have_one_least(self):
        rng = random.Random(45)
        for _ in range(60):
            chart = random_chart(rng, 4, "ab", full=0.8)
            for order in itertools.permutations(range(1, chart.states)):
                names = (0, *order)
                moves = tuple(sorted((names[s], x, names[t]) for s, x, t in chart.moves))
                other = Chart(chart.letters, chart.states, moves, tuple(sorted(names[s] for s in chart.ends)))
                self.assertEqual(least_chart(other), least_chart(chart))


if __name__ == "__main__":
    unittest.main()
