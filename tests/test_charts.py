"""Charts: point 11, their texts (point 16), and what any values are answered."""

import itertools
import random
import unittest

from loomhold.charts import (
    Chart, first_treadling, has_treadling, longest_treadling, many_treadlings, treadlings_of, useful_states)
from loomhold.errors import BadChart, BadText
from tests.helpers import (
    PLAIN, changed_values, is_true_int, language, lets, raised, random_chart, random_word, some_values, words_to)

ALL = Chart("abcd", 1, tuple((0, letter, 0) for letter in "abcd"), (0,))
NONE = Chart("a", 1, (), ())


def is_state(thing, states):
    return is_true_int(thing) and 0 <= thing < states


def bad_part(letters, states, moves, ends):
    """The part that BadChart has to tell, None for a chart."""
    alphabet = set("abcdefghijklmnopqrstuvwxyz")
    if type(letters) is not str or letters == "" or set(letters) - alphabet or list(letters) != sorted(set(letters)):
        return "letters"
    if not is_true_int(states) or states < 1:
        return "states"
    if type(moves) is not tuple:
        return "moves"
    for number, move in enumerate(moves):
        if type(move) is not tuple or len(move) != 3 or type(move[1]) is not str or move[1] not in list(letters):
            return number
        if not is_state(move[0], states) or not is_state(move[2], states):
            return number
        if number > 0 and (moves[number - 1][0], moves[number - 1][1]) >= (move[0], move[1]):
            return number
    if type(ends) is not tuple or not all(is_state(s, states) for s in ends) or list(ends) != sorted(set(ends)):
        return "ends"
    return None


class ChartTest(unittest.TestCase):

    def test_attributes(self):
        chart = Chart("ac", 3, ((0, "a", 2), (0, "c", 0), (2, "a", 1)), (0, 1))
        self.assertEqual((chart.letters, chart.states), ("ac", 3))
        self.assertEqual((chart.moves, chart.ends), (((0, "a", 2), (0, "c", 0), (2, "a", 1)), (0, 1)))
        self.assertEqual(len(chart), 3)
        self.assertEqual(chart, Chart(letters="ac", states=3, moves=chart.moves, ends=(0, 1)))

    def test_greater_ones(self):
        moves = tuple((state, letter, (state * 7) % 999) for state in range(999) for letter in "abcxyz")
        chart = Chart("abcdefghijklmnopqrstuvwxyz", 999, moves, tuple(range(999)))
        self.assertEqual(len(chart), 999)
        self.assertEqual(Chart.read(str(chart)), chart)
        most = 10 ** 40
        huge = Chart("z", most, ((0, "z", most - 1), (most - 1, "z", 0)), (0, most - 1))
        self.assertEqual((huge.states, huge.ends), (most, (0, most - 1)))
        self.assertEqual(Chart.read(str(huge)), huge)
        self.assertNotEqual(huge, Chart("z", most + 1, huge.moves, huge.ends))

    def test_bad_parts_in_order(self):
        one = ((0, "a", 0),)
        bad = [("", 0, 0, 0, "letters"), ("ba", 1, (), (), "letters"), ("aa", 1, (), (), "letters"), ("aB", 1, (), (), "letters"),
               (("a",), 1, (), (), "letters"), (None, 1, (), (), "letters"), ("a1", 1, (), (), "letters"), ("a", 0, 0, 0, "states"),
               ("a", True, (), (), "states"), ("a", -1, (), (), "states"), ("a", "1", (), (), "states"), ("a", 1, [], 0, "moves"),
               ("a", 1, "", (), "moves"), ("a", 1, None, (), "moves"), ("a", 1, ([0, "a", 0],), (), 0), ("a", 1, ((0, "a"),), (), 0),
               ("a", 1, ((0, "a", 0, 0),), (), 0), ("a", 1, ((0, "b", 0),), (), 0), ("a", 1, ((1, "a", 0),), (), 0),
               ("a", 1, ((0, "a", 1),), (), 0), ("a", 1, ((False, "a", 0),), (), 0), ("a", 2, ((0, "a", True),), (), 0),
               ("ab", 1, ((0, "ab", 0),), (), 0), ("ab", 1, ((0, "", 0),), (), 0), ("a", 2, one + ((0, "a", 1),), (), 1),
               ("ab", 2, ((0, "b", 0), (0, "a", 0)), (), 1), ("a", 2, ((1, "a", 0), (0, "a", 0)), (), 1), ("a", 2, one + one, 0, 1),
               ("a", 1, one, [], "ends"), ("a", 1, one, (1,), "ends"), ("a", 1, one, (True,), "ends"), ("a", 3, one, (2, 0), "ends"),
               ("a", 1, one, (0, 0), "ends"), ("a", 1, one, None, "ends"), ("a", 1, one, 0, "ends"), ("a", 1, one, (-1,), "ends")]
        for letters, states, moves, ends, part in bad:
            error = raised(self, BadChart, Chart, letters, states, moves, ends)
            self.assertEqual(error.part, part)
            self.assertIs(type(error.part), type(part))

    def test_any_values(self):
        values = some_values(31, 300)
        rng = random.Random(32)
        right = [["a", "ab", "abz"], [1, 2, 10 ** 39], [(), ((0, "a", 0),), ((0, "a", 0), (1, "a", 0))], [(), (0,), (0, 1)]]
        for _ in range(4000):
            parts = [rng.choice(row) if rng.random() < 0.7 else rng.choice(values) for row in right]
            if rng.random() < 0.2:
                parts[2] = tuple(rng.choice([(0, "a", 0), (1, "b", 1), rng.choice(values)]) for _ in range(3))
            part = bad_part(*parts)
            if part is None:
                self.assertEqual(Chart(*parts).ends, parts[3])
            else:
                self.assertEqual(raised(self, BadChart, Chart, *parts).part, part)

    def test_changed_parts(self):
        rng = random.Random(40)
        for seed in range(60):
            chart = random_chart(rng, 4, "abc")
            for parts in changed_values(seed, [chart.letters, chart.states, chart.moves, chart.ends], 60):
                if type(parts) is not list or len(parts) != 4:
                    continue
                part = bad_part(*parts)
                if part is None:
                    self.assertEqual(Chart(*parts).moves, parts[2])
                else:
                    self.assertEqual(raised(self, BadChart, Chart, *parts).part, part)

    def test_equal(self):
        chart = Chart("ab", 2, ((0, "a", 1),), (1,))
        self.assertTrue(chart == Chart("ab", 2, ((0, "a", 1),), (1,)))
        for other in (Chart("abc", 2, ((0, "a", 1),), (1,)), Chart("ab", 3, ((0, "a", 1),), (1,)), Chart("ab", 2, (), (1,)),
                      Chart("ab", 2, ((0, "a", 1),), ()), PLAIN, ("ab", 2, ((0, "a", 1),), (1,)), str(chart), None):
            self.assertFalse(chart == other)
            self.assertTrue(chart != other)

    def test_led(self):
        chart = Chart("ab", 3, ((0, "a", 1), (1, "b", 0), (2, "a", 2)), (1,))
        self.assertEqual(chart.led(0, ""), 0)
        self.assertEqual(chart.led(2, "aaa"), 2)
        self.assertEqual(chart.led(state=0, word="aba"), 1)
        for word in ("aa", "b", "ac", "A", "z", "ab\n"):
            self.assertIsNone(chart.led(0, word))

    def test_has_treadling(self):
        chart = Chart("ab", 2, ((0, "a", 1), (1, "b", 0)), (1,))
        for word, told in (("a", True), ("aba", True), ("", False), ("ab", False), ("b", False), ("ax", False)):
            self.assertIs(has_treadling(chart, word), told)
        for value in some_values(33, 300):
            self.assertIs(has_treadling(chart, thing=value), isinstance(value, str) and lets(chart, value))
        self.assertIs(has_treadling(ALL, "abcd" * 1000), True)
        self.assertIs(has_treadling(NONE, ""), False)


class ChartTextTest(unittest.TestCase):

    def test_examples(self):
        self.assertEqual(str(Chart("ab", 2, ((0, "a", 1),), ())), "chart 2\nletters ab\nends\nmove 0 a 1")

    def test_read_back(self):
        rng = random.Random(34)
        for _ in range(300):
            chart = random_chart(rng, 12, "abcdxyz")
            self.assertEqual(Chart.read(text=str(chart)), chart)
        figures = "7" * 1900
        text = "chart 1" + figures + "\nletters a\nends " + figures + "\nmove 0 a 0"
        self.assertEqual(str(Chart.read(text)), text)
        self.assertEqual(Chart.read(text).states, int("1" + figures))

    def test_bad_lines(self):
        head = "chart 2\nletters ab\nends 0"
        bad = [("", 1), ("\n", 1), ("chart 1", 2), ("chart 1\n", 2), ("chart 1\nletters a", 3), ("chart 1\nletters a\n", 3),
               ("chart 0\nletters a\nends", 1), ("chart 01\nletters a\nends", 1), ("chart\nletters a\nends", 1), ("Chart 1", 1),
               ("chart -1", 1), ("chart 1 1", 1), ("chart a", 1), (" chart 1", 1), ("chart  1", 1), ("chart 1 ", 1), ("chart 1_0", 1),
               ("chart 1\nletters\nends", 2), ("chart 1\nletters ba\nends", 2), ("chart 1\nletters a b\nends", 2),
               ("chart 1\nletters aa\nends", 2), ("chart 1\nletters \nends", 2), ("chart 1\nends\nletters a", 2),
               ("chart 1\nletters a\nends 1", 3), ("chart 1\nletters a\nends 0 0", 3), ("chart 2\nletters a\nends 1 0", 3),
               ("chart 1\nletters a\nends ", 3), ("chart 1\nletters a\nmove 0 a 0", 3), ("chart 2\nletters a\nends 0 01", 3),
               ("chart 1\nletters a\nends\n", 4), (head + "\nmove 0 a", 4), (head + "\nmove 0 a 2", 4), (head + "\nmove 2 a 0", 4),
               (head + "\nmove 0 c 0", 4), (head + "\nmove 0 ab 0", 4), (head + "\nmove 0 a 0 0", 4), (head + "\nmove 0 a 0 ", 4),
               (head + "\nmove", 4), (head + "\nends", 4), (head + "\nmove a 0 0", 4), (head + "\nmove 0 a 00", 4),
               (head + "\nmove 0 a 0\nmove 0 a 1", 5), (head + "\nmove 1 a 0\nmove 0 b 1", 5), (head + "\nmove 0 b 0\nmove 0 a 0", 5),
               (head + "\nmove 0 a 0\n", 5), (head + "\nmove 0 a 0\n\nmove 0 b 0", 5), (head + "\nmove 0 a 0\nend", 5),
               ("chart 1" + "0" * 50 + "\nletters a\nends 1" + "0" * 50, 3), ("chart " + "9" * 3900, 2)]
        for text, line in bad:
            self.assertEqual(raised(self, BadText, Chart.read, text).line, line, text[:60])

    def test_any_values(self):
        for value in some_values(35, 300):
            error = raised(self, BadText, Chart.read, value)
            self.assertEqual(error.line == 0, not isinstance(value, str))

    def test_changed_texts(self):
        rng = random.Random(36)
        for _ in range(2000):
            text = str(random_chart(rng, 4, "abc"))
            at = rng.randrange(len(text) + 1)
            other = text[:at] + rng.choice(["", " ", "\n", "0", "a", "move", "-"]) + text[at + rng.randrange(2):]
            try:
                self.assertEqual(str(Chart.read(other)), other)
            except BadText as error:
                self.assertTrue(1 <= error.line <= max(other.count("\n") + 2, 3))
                self.assertGreaterEqual(error.line, other[:at].count("\n") + (1 if at else 0))


class TreadlingsTest(unittest.TestCase):

    def test_useful(self):
        chart = Chart("ab", 5, ((0, "a", 1), (1, "a", 2), (1, "b", 3), (4, "a", 1)), (2,))
        self.assertEqual(useful_states(chart), (0, 1, 2))
        self.assertEqual(useful_states(chart=NONE), ())
        self.assertEqual(useful_states(Chart("a", 2, ((1, "a", 1),), (1,))), ())
        self.assertEqual(useful_states(Chart("a", 1, (), (0,))), (0,))

    def test_without_treadlings(self):
        for chart in (NONE, Chart("a", 2, ((0, "a", 0),), (1,)), Chart("ab", 2, ((0, "b", 0), (1, "a", 0)), (1,))):
            self.assertIsNone(first_treadling(chart))
            self.assertIsNone(longest_treadling(chart))
            self.assertEqual([many_treadlings(chart, length) for length in range(5)], [0] * 5)
            self.assertEqual([list(treadlings_of(chart, length)) for length in range(5)], [[]] * 5)

    def test_only_the_empty_one(self):
        chart = Chart("ab", 2, ((0, "a", 1),), (0,))
        self.assertEqual((first_treadling(chart), longest_treadling(chart=chart)), ("", 0))
        self.assertEqual(list(treadlings_of(chart, 0)), [""])
        self.assertEqual(list(treadlings_of(chart, 1)), [])

    def test_one_by_one(self):
        rng = random.Random(37)
        for _ in range(250):
            chart = random_chart(rng, 5, "abc")
            words = words_to(chart.letters, 5)
            row = [word for word in words if lets(chart, word)]
            useful = set()
            for word in row:
                useful |= {chart.led(0, word[:place]) for place in range(len(word) + 1)}
            self.assertLessEqual(useful, set(useful_states(chart)))
            for length in range(6):
                told = [word for word in row if len(word) == length]
                self.assertEqual(list(treadlings_of(chart, length)), told)
                self.assertEqual(many_treadlings(chart, length), len(told))
            self.assertEqual(first_treadling(chart), row[0] if row else None)
            longest = longest_treadling(chart)
            if longest is None:
                # A chart of five states that has a treadling of five letters has ever longer ones.
                self.assertTrue(not row or any(many_treadlings(chart, length) for length in range(5, 10)))
            else:
                self.assertEqual(max(len(word) for word in row), longest)
                self.assertFalse(any(many_treadlings(chart, length) for length in range(longest + 1, longest + 9)))

    def test_useful_by_words(self):
        rng = random.Random(38)
        for _ in range(200):
            chart = random_chart(rng, 4, "ab")
            words = words_to("ab", 4)
            met = {chart.led(0, word) for word in words} - {None}
            told = [s for s in sorted(met) if any(chart.led(s, word) in chart.ends for word in words)]
            self.assertEqual(useful_states(chart), tuple(told))

    def test_very_many(self):
        self.assertEqual(many_treadlings(ALL, 60), 4 ** 60)
        self.assertIsNone(longest_treadling(ALL))
        row = treadlings_of(chart=ALL, length=60)
        self.assertIs(iter(row), row)
        first = list(itertools.islice(row, 2000))
        self.assertEqual(first[:6], ["a" * 59 + "a", "a" * 59 + "b", "a" * 59 + "c", "a" * 59 + "d", "a" * 58 + "ba", "a" * 58 + "bb"])
        self.assertEqual(first, sorted(first))
        # Nearly all beginnings come to no end here: they are not to be tried one after the other.
        late = Chart("ab", 3, ((0, "a", 0), (0, "b", 1), (1, "a", 1), (1, "b", 1), (2, "a", 2)), (0,))
        self.assertEqual(list(treadlings_of(late, 60)), ["a" * 60])

    def test_limits(self):
        moves = tuple((state, letter, (state * 5 + place) % 6) for state in range(6) for place, letter in enumerate("abcd"))
        chart = Chart("abcd", 6, moves, (5,))
        self.assertEqual(many_treadlings(chart=chart, length=6), len(list(treadlings_of(chart, 6))))
        self.assertLess(many_treadlings(chart, 60), 4 ** 60)
        first = list(itertools.islice(treadlings_of(chart, 60), 500))
        self.assertEqual(first, sorted(first))
        self.assertTrue(all(len(word) == 60 and has_treadling(chart, word) for word in first))
        total = sum(many_treadlings(chart, length) for length in range(6))
        self.assertEqual(total, len(language(chart, "abcd", 5)))

    def test_same_call_same_result(self):
        rng = random.Random(39)
        chart = random_chart(rng, 6, "abcd", full=0.9)
        word = random_word(rng, "abcd", 60)
        for call in (useful_states, first_treadling, longest_treadling, str, len):
            self.assertEqual(call(chart), call(chart))
        self.assertEqual(chart.led(0, word), chart.led(0, word))
        self.assertEqual(list(treadlings_of(chart, 3)), list(treadlings_of(chart, 3)))


if __name__ == "__main__":
    unittest.main()
