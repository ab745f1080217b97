"""Pegs, refusals and their papers: points 56 to 58."""

import itertools
import random
import time
import unittest

from loomhold.charts import Chart
from loomhold.errors import NoTreadle
from loomhold.looms import Loom
from loomhold.pegs import do_bind, fewest_pegs, is_pegs, judge_pegs, pegs_hold, pegs_of, refusal, refusal_holds, turned_loom
from loomhold.scripts import chart_of
from tests.helpers import (
    DOUBLE, LOOSE, PLAIN, SPARE, all_changed, behind_ab, changed_values, fitting, is_sorted, is_true_int, lets, raised, random_chart, random_loom,
    some_values, treadlings_to, words_to)
from tests.test_holding import NONE, ODD, TURNS, does_fall
from tests.test_holdpapers import falls_by_length, told_lasting

ALL = chart_of("([a|b])*", "ab")
BOTH = chart_of("[a(a)*b|b(b)*a]([a|b])*", "ab")
BARE = Loom(2, (0, 1, 0, 1), ((0,), ()))
EMPTY = Chart("ab", 1, (), (0,))
FEW = chart_of("[ab|ba|abb]", "ab")


def told_pegs(loom):
    return [(letter, shaft) for letter in loom.letters for shaft in sorted(set(loom.threading))]


def told_turned(loom, pegs):
    lifts = []
    for letter, lift in zip(loom.letters, loom.lifts):
        lifts.append(tuple(sorted(set(lift) ^ {shaft for sign, shaft in pegs if sign == letter})))
    return Loom(loom.shafts, loom.threading, tuple(lifts))


def told_bind(loom, chart, pegs, late):
    """Tell whether pegs bind, by counting the treadlings that fall along states and sets of letters."""
    turned = told_turned(loom, pegs)
    if late:
        return told_lasting(turned, chart) is not None
    return not any(falls_by_length(turned, chart, chart.states * 2 ** len(chart.letters)))


def tuples_to(loom, many):
    """All ascending tuples of at most so many pegs, as Python compares them."""
    return sorted(row for number in range(many + 1) for row in itertools.combinations(told_pegs(loom), number))


def told_fewest(loom, chart, late, most):
    for many in range(most + 1):
        found = [row for row in itertools.combinations(told_pegs(loom), many) if told_bind(loom, chart, row, late)]
        if found:
            return tuple(sorted(found))
    return ()


def is_right_pegs(loom, thing):
    if type(thing) is not tuple:
        return False
    for peg in thing:
        if type(peg) is not tuple or len(peg) != 2 or type(peg[0]) is not str or not is_true_int(peg[1]) or peg not in told_pegs(loom):
            return False
    return is_sorted(thing)


def is_right_refusal(loom, chart, pegs, thing, late):
    """Tell whether a value is a refusal, or a late one, as point 57 words it; many loops are written out."""
    turned = told_turned(loom, pegs)
    if not late:
        return type(thing) is str and lets(chart, thing) and does_fall(turned, thing)
    if type(thing) is not tuple or len(thing) != 3 or not all(type(word) is str for word in thing) or thing[1] == "":
        return False
    ahead, loop, behind = thing
    words = [ahead + loop * many + behind for many in range(2 * chart.states + 2)]
    return all(lets(chart, word) and does_fall(turned, word) for word in words)


def is_right_paper(loom, chart, thing, late, most):
    if type(thing) is not tuple or len(thing) == 0 or type(thing[0]) is not str:
        return False
    if thing[0] == "pegs" and len(thing) == 3:
        if not is_right_pegs(loom, thing[1]) or len(thing[1]) > most or not told_bind(loom, chart, thing[1], late):
            return False
        asked, refused = tuples_to(loom, len(thing[1]) - 1), thing[2]
    elif thing[0] == "none" and len(thing) == 2:
        asked, refused = tuples_to(loom, most), thing[1]
    else:
        return False
    if type(refused) is not tuple or len(refused) != len(asked):
        return False
    for others, pair in zip(asked, refused):
        if type(pair) is not tuple or len(pair) != 2 or not is_right_pegs(loom, pair[0]) or pair[0] != others:
            return False
        if not is_right_refusal(loom, chart, others, pair[1], late):
            return False
    return True


class PegsTest(unittest.TestCase):

    def test_examples(self):
        self.assertIs(do_bind(PLAIN, BOTH, ()), True)
        self.assertIs(do_bind(PLAIN, ALL, ()), False)
        self.assertEqual(refusal(PLAIN, ALL, ()), "")
        self.assertIs(refusal_holds(PLAIN, ALL, (), ("a", "a", ""), late=True), True)
        self.assertIs(pegs_hold(PLAIN, ALL, ("none", (((), "a"),)), most=0), True)
        self.assertEqual(fewest_pegs(BARE, BOTH), ((("b", 1),),))
        self.assertIs(pegs_hold(BARE, BOTH, ("pegs", (("b", 1),), (((), "ab"),))), True)
        self.assertEqual(judge_pegs(BARE, BOTH)[:2], ("pegs", (("b", 1),)))

    def test_pegs(self):
        self.assertEqual(pegs_of(PLAIN), (("a", 0), ("a", 1), ("b", 0), ("b", 1)))
        # The shaft 2 of SPARE has no end: it has no pegs.
        self.assertEqual(pegs_of(loom=SPARE), tuple((letter, shaft) for letter in "abcd" for shaft in (0, 1, 3)))
        self.assertEqual(turned_loom(PLAIN, ()), PLAIN)
        self.assertEqual(turned_loom(PLAIN, (("a", 0), ("b", 0))), Loom(2, (0, 1, 0, 1), ((), (0, 1))))
        self.assertEqual(turned_loom(loom=SPARE, pegs=(("b", 0), ("b", 3))), SPARE.with_lift("b", (2, 3)))
        rng = random.Random(900)
        for _ in range(100):
            loom = random_loom(rng)
            self.assertEqual(list(pegs_of(loom)), told_pegs(loom))
            pegs = tuple(peg for peg in pegs_of(loom) if rng.random() < 0.4)
            self.assertIs(is_pegs(loom, pegs), True)
            self.assertEqual(turned_loom(loom, pegs), told_turned(loom, pegs))
            self.assertEqual(turned_loom(turned_loom(loom, pegs), pegs), loom)

    def test_any_pegs(self):
        for loom in (PLAIN, SPARE, Loom(1, (0,), ((),))):
            for value in some_values(901, 200):
                self.assertIs(is_pegs(loom, value), is_right_pegs(loom, value), value)
            for pegs in ((), told_pegs(loom)[:2], told_pegs(loom)):
                for value in [*all_changed(tuple(pegs)), *changed_values(902, tuple(pegs), 60)]:
                    self.assertIs(is_pegs(loom=loom, thing=value), is_right_pegs(loom, value), value)
        for thing in ((("b", 0), ("a", 0)), (("a", 0), ("a", 0)), (("a", 2),), (("a", False),), (("c", 0),), (("ab", 0),), (("", 0),), [("a", 0)]):
            self.assertIs(is_pegs(PLAIN, thing), False)
        self.assertIs(is_pegs(SPARE, (("a", 2),)), False)


class BindTest(unittest.TestCase):

    def test_without_treadlings_and_with_few(self):
        for chart in (NONE, Chart("z", 1, (), ())):
            for pegs in ((), (("a", 0),), pegs_of(PLAIN)):
                for late in (False, True):
                    self.assertIs(do_bind(PLAIN, chart, pegs, late=late), True)
                    self.assertIsNone(refusal(PLAIN, chart, pegs, late=late))
            self.assertEqual(fewest_pegs(PLAIN, chart), ((),))
            self.assertEqual(judge_pegs(loom=PLAIN, chart=chart, late=True, most=0), ("pegs", (), ()))
        for chart in (EMPTY, FEW, chart_of("a", "ab"), chart_of("[a|b]", "ab")):
            self.assertIs(do_bind(BARE, chart, (), late=True), True)
            self.assertIs(do_bind(BARE, chart, ()), False)
            self.assertEqual(judge_pegs(BARE, chart, late=True), ("pegs", (), ()))
        self.assertEqual(refusal(PLAIN, EMPTY, ()), "")
        self.assertEqual(judge_pegs(PLAIN, EMPTY, most=0), ("none", (((), ""),)))
        self.assertEqual(fewest_pegs(PLAIN, EMPTY, most=2), ())
        self.assertEqual(fewest_pegs(PLAIN, chart_of("a", "ab"), most=3), ())

    def test_all_tuples(self):
        rng = random.Random(903)
        seen = {}
        for _ in range(120):
            loom, chart = fitting(rng, 3, 2)
            for late in (False, True):
                for pegs in [(), *[rng.choice(tuples_to(loom, 3)) for _ in range(3)]]:
                    right = told_bind(loom, chart, pegs, late)
                    seen[(late, right)] = seen.get((late, right), 0) + 1
                    self.assertIs(do_bind(loom, chart, pegs, late=late), right)
                    found = refusal(loom, chart, pegs, late=late)
                    self.assertEqual(found is None, right)
                    if right:
                        continue
                    self.assertTrue(is_right_refusal(loom, chart, pegs, found, late))
                    self.assertIs(refusal_holds(loom, chart, pegs, found, late=late), True)
                    if not late:
                        words = [word for word in treadlings_to(chart, len(found)) if does_fall(told_turned(loom, pegs), word)]
                        self.assertEqual(found, words[0])
        self.assertGreater(min(seen.values()), 50)

    def test_two_letters_alone(self):
        # One holds exactly if the lifts of both have a used shaft each, none in common, and all of them together.
        chart = chart_of("ab", "ab")
        for one, other in itertools.product(range(8), range(8)):
            lifts = tuple(tuple(shaft for shaft in range(3) if mask >> shaft & 1) for mask in (one, other))
            loom = Loom(3, (0, 1, 2, 1), lifts)
            self.assertIs(do_bind(loom, chart, ()), one > 0 and other > 0 and one & other == 0 and one | other == 7)

    def test_nothing_is_closed_upwards(self):
        self.assertIs(do_bind(BARE, BOTH, (("b", 1),)), True)
        self.assertIs(do_bind(BARE, BOTH, (("b", 0), ("b", 1))), False)
        self.assertIs(do_bind(loom=BARE, chart=BOTH, pegs=(("a", 0), ("a", 1), ("b", 0)), late=False), True)

    def test_refusals(self):
        chart = chart_of("[ab|aab](ba)*", "ab")
        for word in words_to("ab", 6):
            self.assertIs(refusal_holds(BARE, chart, (), word), lets(chart, word))
            self.assertIs(refusal_holds(BARE, chart, (("b", 1),), word), False)
        for thing in (None, 0, ["a", "b"], "abc", "AB", ("ab", "ba", ""), PLAIN, ("ab",)):
            self.assertIs(refusal_holds(BARE, chart, (), thing), False)
        self.assertIs(refusal_holds(loom=BARE, chart=chart, pegs=(), thing=("ab", "ba", ""), late=True), True)

    def test_late_refusals(self):
        # The loop need not lead back to one state, and may have letters that ahead has not.
        chart = Chart("ab", 3, ((0, "a", 1), (0, "b", 0), (1, "a", 2), (2, "a", 1)), (0, 1, 2))
        self.assertIs(refusal_holds(PLAIN, chart, (), ("", "a", ""), late=True), True)
        self.assertIs(refusal_holds(PLAIN, chart, (), ("a", "a", ""), late=True), True)
        self.assertIs(refusal_holds(PLAIN, chart, (), ("b", "a", ""), late=True), False)
        self.assertIs(refusal_holds(PLAIN, chart, (), ("", "b", "a"), late=True), False)
        self.assertIs(refusal_holds(PLAIN, chart, (("b", 1),), ("", "b", "a"), late=True), True)
        self.assertIs(refusal_holds(LOOSE, chart_of("(ab)*c(ab)*", "abc"), (), ("", "ab", "c"), late=True), True)
        # With no loop it has to be a refusal, too: ab holds, abc and abcc do not.
        self.assertIs(refusal_holds(LOOSE, chart_of("ab(c)*", "abc"), (), ("ab", "c", ""), late=True), False)
        self.assertIs(refusal_holds(LOOSE, chart_of("ab(c)*", "abc"), (), ("abc", "c", ""), late=True), True)
        # A way through three states before the loop comes back; one of them is no end.
        ways = ((0, "a", 1), (1, "a", 2), (2, "a", 3), (3, "a", 2))
        self.assertIs(refusal_holds(PLAIN, Chart("a", 4, ways, (0, 1, 2, 3)), (), ("", "a", ""), late=True), True)
        self.assertIs(refusal_holds(PLAIN, Chart("a", 4, ways, (0, 1, 2)), (), ("", "a", ""), late=True), False)
        self.assertIs(refusal_holds(PLAIN, Chart("a", 4, ways, (0, 2)), (), ("", "aa", ""), late=True), True)
        self.assertIs(refusal_holds(PLAIN, Chart("a", 4, ways, (2,)), (), ("", "aa", ""), late=True), False)
        self.assertIs(refusal_holds(PLAIN, Chart("a", 4, ways, (3,)), (), ("a", "aaaa", "aa"), late=True), True)

    def test_late_refusals_one_by_one(self):
        rng = random.Random(904)
        words = words_to("ab", 2)
        found = 0
        for _ in range(25):
            loom, chart = fitting(rng, 3, 2)
            pegs = rng.choice(tuples_to(loom, 2))
            for thing in itertools.product(words, words, words):
                right = is_right_refusal(loom, chart, pegs, thing, True)
                self.assertIs(refusal_holds(loom, chart, pegs, thing, late=True), right)
                found += right
        self.assertGreater(found, 100)

    def test_any_refusals(self):
        values = some_values(905, 150)
        for loom, chart, pegs in ((PLAIN, ALL, ()), (BARE, BOTH, ()), (PLAIN, TURNS, (("a", 0),)), (PLAIN, NONE, ())):
            for late in (False, True):
                for value in values:
                    self.assertIs(refusal_holds(loom, chart, pegs, value, late=late), is_right_refusal(loom, chart, pegs, value, late))
                found = refusal(loom, chart, pegs, late=late)
                if found is not None:
                    for value in [*all_changed(found), *changed_values(906, found, 60)]:
                        self.assertIs(refusal_holds(loom, chart, pegs, value, late=late), is_right_refusal(loom, chart, pegs, value, late))


class FewestTest(unittest.TestCase):

    def test_all_tuples(self):
        rng = random.Random(907)
        sizes = {}
        for number in range(100):
            loom, chart = fitting(rng, 3, 2, 2)
            if number % 2 == 1:
                loom = Loom(2, (0, 1, 1), tuple(rng.choice([(), (0,), (1,), (0, 1)]) for _ in "ab"))
                chart = behind_ab(random_chart(rng, 2, "ab"))
            for late in (False, True):
                for most in (0, 1, 2):
                    right = told_fewest(loom, chart, late, most)
                    self.assertEqual(fewest_pegs(loom, chart, late=late, most=most), right)
                    paper = judge_pegs(loom, chart, late=late, most=most)
                    self.assertTrue(is_right_paper(loom, chart, paper, late, most))
                    self.assertIs(pegs_hold(loom, chart, paper, late=late, most=most), True)
                    self.assertEqual(paper[0], "pegs" if right else "none")
                    if right:
                        self.assertIn(paper[1], right)
                        sizes[len(paper[1])] = sizes.get(len(paper[1]), 0) + 1
                        self.assertIs(pegs_hold(loom, chart, paper, late=late, most=len(paper[1])), True)
                        self.assertIs(pegs_hold(loom, chart, paper, late=late, most=len(paper[1]) - 1), False)
        self.assertGreater(min(sizes.get(many, 0) for many in (0, 1, 2)), 3)

    def test_three_pegs(self):
        loom = Loom(3, (0, 1, 2), ((), (), ()))
        chart = chart_of("abc(abc)*", "abc")
        self.assertEqual(len(pegs_of(loom)), 9)
        self.assertEqual(fewest_pegs(loom, chart, most=2), ())
        found = fewest_pegs(loom=loom, chart=chart, late=False, most=3)
        self.assertEqual(found, told_fewest(loom, chart, False, 3))
        self.assertIn((("a", 0), ("b", 1), ("c", 2)), found)
        for late in (False, True):
            for most in (2, 3):
                paper = judge_pegs(loom, chart, late=late, most=most)
                self.assertIs(pegs_hold(loom, chart, paper, late=late, most=most), True)
                self.assertTrue(is_right_paper(loom, chart, paper, late, most))
        self.assertEqual(len(judge_pegs(loom, chart, most=3)[2]), 1 + 9 + 36)

    def test_no_peg_turned(self):
        self.assertEqual(fewest_pegs(PLAIN, BOTH), ((),))
        self.assertEqual(judge_pegs(PLAIN, BOTH), ("pegs", (), ()))
        self.assertEqual(fewest_pegs(PLAIN, TURNS), ())
        self.assertEqual(fewest_pegs(PLAIN, TURNS, late=True), ((),))
        self.assertEqual(judge_pegs(PLAIN, TURNS, late=True, most=0), ("pegs", (), ()))

    def test_papers_of_others(self):
        rng = random.Random(908)
        for _ in range(25):
            loom, chart = fitting(rng, 2, 2, 2)
            for late in (False, True):
                paper = judge_pegs(loom, chart, late=late, most=1)
                refused = paper[-1]
                if late:
                    others = tuple((row, (told[0] + told[1], told[1] * 2, told[2])) for row, told in refused)
                else:
                    words = treadlings_to(chart, 4)
                    others = tuple((row, [told, *[word for word in words if does_fall(told_turned(loom, row), word)]][-1]) for row, told in refused)
                self.assertIs(pegs_hold(loom, chart, (*paper[:-1], others), late=late, most=1), True)
                if len(refused) > 1:
                    self.assertIs(pegs_hold(loom, chart, (*paper[:-1], refused[::-1]), late=late, most=1), False)
                    self.assertIs(pegs_hold(loom, chart, (*paper[:-1], refused[1:]), late=late, most=1), False)
                    self.assertIs(pegs_hold(loom, chart, (*paper[:-1], (*refused, refused[-1])), late=late, most=1), False)
                for pegs in fewest_pegs(loom, chart, late=late, most=1):
                    self.assertIs(pegs_hold(loom, chart, ("pegs", pegs, refused), late=late, most=1), True)
        # Pegs that bind, but not as few as can be, have no paper.
        self.assertIs(pegs_hold(BARE, BOTH, ("pegs", (("a", 0), ("a", 1), ("b", 0)), ()), most=3), False)

    def test_any_and_changed_papers(self):
        rng = random.Random(909)
        values = some_values(910, 120)
        cases = [(PLAIN, ALL), (BARE, BOTH), (PLAIN, BOTH), (PLAIN, NONE), (PLAIN, EMPTY)]
        for loom, chart in cases:
            for late in (False, True):
                for most in (0, 1):
                    for value in values:
                        self.assertIs(pegs_hold(loom, chart, value, late=late, most=most), is_right_paper(loom, chart, value, late, most), value)
        cases.extend([fitting(rng, 2, 2, 2) for _ in range(8)])
        for seed, (loom, chart) in enumerate(cases):
            for late in (False, True):
                for most in (0, 1):
                    paper = judge_pegs(loom, chart, late=late, most=most)
                    for value in [*all_changed(paper), *changed_values(seed, paper, 30)]:
                        self.assertIs(pegs_hold(loom=loom, chart=chart, thing=value, late=late, most=most),
                                      is_right_paper(loom, chart, value, late, most), value)

    def test_sizes_at_the_limits(self):
        rng = random.Random(911)
        start = time.process_time()
        for many in (6, 12):
            moves = tuple((s, x, rng.randrange(many)) for s in range(many) for x in "abcd" if rng.random() < 0.8)
            chart = Chart("abcd", many, moves, (many - 1,))
            for lifts in (((0, 1), (1, 2), (2, 3), (0, 3)), ((), (), (), ())):
                loom = Loom(4, (0, 1, 2, 3) * 3, lifts)
                for late in (False, True):
                    paper = judge_pegs(loom, chart, late=late)
                    self.assertIs(pegs_hold(loom, chart, paper, late=late), True)
                    if paper[0] == "none":
                        self.assertEqual(len(paper[1]), 1 + 16 + 120)
        self.assertLess(time.process_time() - start, 20)
        loom = Loom(4, (0, 1, 2, 3), ((0,), (1,), (0, 1, 2), (0, 1, 3)))
        chart = chart_of("abcd(abcd)*", "abcd")
        found = fewest_pegs(loom, chart)
        self.assertGreater(len(found), 0)
        self.assertEqual({len(row) for row in found}, {1})
        self.assertEqual(loom, DOUBLE)


class NoTreadleTest(unittest.TestCase):

    def test_ahead_of_all_else(self):
        chart = chart_of("c(ab)*d", "abcd")
        calls = [lambda **more: do_bind(PLAIN, chart, None, **more), lambda **more: refusal(PLAIN, chart, None, **more),
                 lambda **more: refusal_holds(PLAIN, chart, None, None, **more), lambda **more: fewest_pegs(PLAIN, chart, **more),
                 lambda **more: judge_pegs(PLAIN, chart, **more), lambda **more: pegs_hold(PLAIN, chart, None, **more)]
        for call in calls:
            for late in (False, True):
                self.assertEqual(raised(self, NoTreadle, call, late=late).letter, "c")
        self.assertEqual(raised(self, NoTreadle, fewest_pegs, PLAIN, ODD).letter, "c")
        # Letters of the chart that no move has are let.
        self.assertEqual(fewest_pegs(PLAIN, Chart("abz", 2, ((0, "a", 1), (1, "b", 1)), (1,)), most=1), ())
        self.assertIs(do_bind(PLAIN, chart_of("ab", "abcd"), ()), True)

    def test_the_same_again(self):
        for late in (False, True):
            self.assertEqual(judge_pegs(BARE, BOTH, late=late), judge_pegs(BARE, BOTH, late=late))
        self.assertEqual(BARE, Loom(2, (0, 1, 0, 1), ((0,), ())))


if __name__ == "__main__":
    unittest.main()
