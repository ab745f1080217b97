"""Scripts: point 15."""

import random
import re
import time
import unittest

from loomhold.chartpapers import are_alike, is_least_chart, least_chart
from loomhold.charts import Chart, has_treadling
from loomhold.errors import BadScript, NoTreadling
from loomhold.joining import alone, backward
from loomhold.scripts import chart_of, check_script, is_script, loop_depth, reversed_script, script_of
from tests.helpers import language, raised, random_chart, some_values, words_to

LETTERS = "abcdefghijklmnopqrstuvwxyz"


def some_script(rng, most):
    """Some script of at most so many signs."""
    script = ""
    while most > 0 and rng.random() < 0.9:
        way = rng.random()
        if way < 0.4 or most < 3:
            item = rng.choice("abcd")
        elif way < 0.7:
            item = "(" + some_script(rng, most - 3) + ")*"
        else:
            rows = [some_script(rng, (most - 4) // 2) for _ in range(2)]
            if rng.random() < 0.2:
                rows.append("")
            item = "[" + "|".join(rows) + "]"
        if len(item) > most:
            break
        script += item
        most -= len(item)
    return script


def told_place(text):
    """How many signs begin some script, None for a script: told by completing each beginning."""
    if rest_of(text) == "":
        return None
    return max(place for place in range(len(text) + 1) if rest_of(text[:place]) is not None)


def rest_of(text):
    """What completes a beginning to a script; None if nothing does."""
    waiting = []
    star = False
    for sign in text:
        if star:
            if sign != "*":
                return None
            star = False
        elif sign == "(":
            waiting.append(")*")
        elif sign == "[":
            waiting.append("|]")
        elif sign == "|" and waiting and waiting[-1] in ("|]", "]"):
            waiting[-1] = "]"
        elif sign == "]" and waiting and waiting[-1] == "]":
            waiting.pop()
        elif sign == ")" and waiting and waiting[-1] == ")*":
            waiting.pop()
            star = True
        elif sign not in LETTERS:
            return None
    return ("*" if star else "") + "".join(waiting[::-1])


def pattern_of(script):
    """The regular expression that says what a script says."""
    return re.compile("".join("(?:" if sign in "[(" else ")" if sign == "]" else sign for sign in script))


class CheckTest(unittest.TestCase):

    def test_examples(self):
        for text, place in (("a]", 1), ("[a]", 2), ("(a)", 3), ("(a)b", 3)):
            self.assertEqual(raised(self, BadScript, check_script, text).place, place)
        self.assertIs(is_script("[a|]"), True)

    def test_scripts(self):
        for text in ("", "abz", "[|]", "[a|b|c]", "()*", "((a)*)*", "[a|(b)*]", "([a|b]c)*", "[[a|]|[|b]]", "[|a]", "[()*|]"):
            self.assertIs(is_script(text), True)
            self.assertIsNone(check_script(text))

    def test_places(self):
        bad = [("A", 0), ("a b", 1), ("*", 0), ("a*", 1), ("(a)**", 4), ("|", 0), ("a|b", 1), ("[", 1), ("[a", 2), ("[a|", 3),
               ("[a|b", 4), ("(", 1), ("(a", 2), ("()", 2), ("()a", 2), (")", 0), ("]", 0), ("(a]", 2), ("[a)", 2), ("[a|b)", 4),
               ("([a)", 3), ("(a|b)", 2), ("[(a|b]", 3), ("[(a)*|b", 7), ("-", 0), ("\n", 0), ("a\n", 1), ("(a)\n", 3), ("[]", 1),
               ("[[a|b]]", 6), ("a" * 3999 + "]", 3999), ("(" * 4000, 4000), ("[" * 2000 + "a|" * 1000, 4000), ("%", 0), ("a1", 1)]
        for text, place in bad:
            self.assertEqual(raised(self, BadScript, check_script, text).place, place)
            self.assertIs(is_script(text), False)

    def test_deep_ones(self):
        self.assertIs(is_script("(" * 1300 + ")*" * 1300), True)
        self.assertIs(is_script("[" * 1000 + "|]" * 1000), True)

    def test_any_values(self):
        for value in some_values(61, 400):
            place = told_place(value) if isinstance(value, str) and len(value) < 100 else None
            if not isinstance(value, str):
                self.assertIs(is_script(thing=value), False)
                self.assertEqual(raised(self, BadScript, check_script, value).place, -1)
            elif place is not None:
                self.assertIs(is_script(value), False)
                self.assertEqual(raised(self, BadScript, check_script, text=value).place, place)

    def test_changed_ones(self):
        rng = random.Random(62)
        for _ in range(3000):
            text = some_script(rng, 12)
            at = rng.randrange(len(text) + 1)
            text = text[:at] + rng.choice(["", *"a[|]()*x-"]) + text[at + rng.randrange(3):]
            place = told_place(text)
            self.assertIs(is_script(text), place is None)
            if place is None:
                self.assertIsNone(check_script(text))
            else:
                self.assertEqual(raised(self, BadScript, check_script, text).place, place)


class ChartsOfScriptsTest(unittest.TestCase):

    def test_examples(self):
        chart = chart_of("[a|b](ab)*", "ab")
        self.assertEqual(chart, Chart("ab", 3, ((0, "a", 1), (0, "b", 1), (1, "a", 2), (2, "b", 1)), (1,)))
        self.assertEqual(language(chart, "ab", 3) - language(chart, "ab", 2), {"aab", "bab"})
        self.assertEqual(chart_of("", "ab"), Chart("ab", 1, (), (0,)))

    def test_edges(self):
        self.assertEqual(chart_of("()*", "a"), Chart("a", 1, (), (0,)))
        self.assertEqual(chart_of("[|]", "a"), Chart("a", 1, (), (0,)))
        self.assertEqual(chart_of("[a|]", "a"), Chart("a", 2, ((0, "a", 1),), (0, 1)))
        self.assertEqual(chart_of("((a)*(b)*)*", "abz"), Chart("abz", 1, ((0, "a", 0), (0, "b", 0)), (0,)))
        self.assertEqual(chart_of(script="([a|b]([c|]d)*)*", letters="abcd").letters, "abcd")
        self.assertEqual(chart_of("z", "az"), Chart("az", 2, ((0, "z", 1),), (1,)))

    def test_word_by_word(self):
        rng = random.Random(63)
        for _ in range(400):
            script = some_script(rng, 16)
            chart = chart_of(script, "abcd")
            self.assertTrue(is_least_chart(chart))
            self.assertEqual(chart.letters, "abcd")
            pattern = pattern_of(script)
            told = {word for word in words_to("abcd", 4) if pattern.fullmatch(word)}
            self.assertEqual(language(chart, "abcd", 4), told, script)

    def test_limits(self):
        for script, states in (("([a|b])*a[a|b][a|b][a|b][a|b][a|b][a|b]", 128), ("[(aa)*|(aaa)*|(aaaaa)*|(aaaaaaa)*]", 210)):
            begun = time.monotonic()
            self.assertEqual(chart_of(script, "ab").states, states)
            self.assertLess(time.monotonic() - begun, 5)

    def test_depth(self):
        told = [("((a)*b)*", 2), ("", 0), ("abc", 0), ("[a|[b|c]]", 0), ("(a)*(b)*", 1), ("[(a)*|((b)*)*]", 2), ("()*", 1),
                ("([(a)*|(b)*](((c)*)*)*)*", 4), ("(a)*((b)*)*(c)*", 2)]
        for script, depth in told:
            self.assertTrue(is_script(script), script)
            self.assertEqual(loop_depth(script), depth, script)
        self.assertEqual(loop_depth(script="(" * 500 + ")*" * 500), 500)

    def test_reversed(self):
        self.assertTrue(are_alike(chart_of(reversed_script("ab[c|(de)*]f"), LETTERS), chart_of("f[c|(ed)*]ba", LETTERS)))
        rng = random.Random(64)
        for _ in range(400):
            script = some_script(rng, 14)
            other = reversed_script(script=script)
            self.assertIs(is_script(other), True)
            self.assertEqual(chart_of(other, "abcd"), backward(chart_of(script, "abcd")), script)
            self.assertEqual(loop_depth(other), loop_depth(script))


class ScriptsOfChartsTest(unittest.TestCase):

    def test_without_treadlings(self):
        for chart in (Chart("a", 1, (), ()), Chart("a", 2, ((0, "a", 0),), (1,))):
            raised(self, NoTreadling, script_of, chart)

    def test_edges(self):
        self.assertEqual(chart_of(script_of(Chart("ab", 1, (), (0,))), "ab"), Chart("ab", 1, (), (0,)))
        word = "abcd" * 15
        self.assertTrue(has_treadling(chart_of(script_of(chart=alone("abcd", word)), "abcd"), word))
        chart = Chart("abz", 4, ((0, "a", 1), (0, "b", 3), (1, "a", 0), (2, "a", 1)), (1, 2))
        self.assertEqual(chart_of(script_of(chart), "abz"), least_chart(chart))

    def test_there_and_back(self):
        rng = random.Random(65)
        for number in range(600):
            chart = random_chart(rng, 4, "abcd", full=None if number % 2 else 1)
            if least_chart(chart).ends == ():
                raised(self, NoTreadling, script_of, chart)
                continue
            script = script_of(chart)
            self.assertIs(is_script(script), True)
            self.assertLessEqual(len(script), 2000)
            self.assertEqual(chart_of(script, chart.letters), least_chart(chart))
            self.assertEqual(script_of(chart), script)

    def test_longest_ones(self):
        # Each state leads to each by one letter: nothing can be put together.
        rng = random.Random(66)
        for _ in range(200):
            moves = tuple((s, x, t) for s in range(4) for x, t in zip("abcd", rng.sample(range(4), 4)))
            chart = Chart("abcd", 4, moves, tuple(s for s in range(4) if rng.random() < 0.7) or (3,))
            script = script_of(chart)
            self.assertLessEqual(len(script), 2000)
            self.assertEqual(chart_of(script, "abcd"), least_chart(chart))


if __name__ == "__main__":
    unittest.main()
