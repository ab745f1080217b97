"""Growths, their generations, places and texts: points 46, 50 and 51."""

import random
import unittest

from loomhold.elements import element_of
from loomhold.errors import BadGrowth, BadPlace, BadText, BadTreadling, TooLong
from loomhold.growing import (
    Growth, does_grow, does_lead_on, element_at, element_in, generation, letters_at, picks_at, picks_modulo, stretch_in, treadle_in)
from loomhold.looms import Loom
from tests.helpers import DOUBLE, LOOSE, PLAIN, all_changed, changed_values, raised, random_loom, random_word, some_values

FIBO = Growth(PLAIN, "a", ("ab", "a"))
THUE = Growth(PLAIN, "a", ("ab", "ba"))
DOUBLING = Growth(PLAIN, "a", ("aa", "b"))
GONE = Growth(PLAIN, "ab", ("b", ""))
TURNS = Growth(PLAIN, "ab", ("b", "a"))
GREAT = Growth(DOUBLE, "abcdabcd", ("abcdabcd", "bbcdcccc", "aaaaaabd", "cdcdcdcd"))


def random_growth(rng, most=3, letters=4):
    """Some growth with starts and rules of at most so many letters."""
    loom = random_loom(rng, 3, 4, letters)
    rules = tuple(random_word(rng, loom.letters, rng.choice([1, 2, most])) for _ in loom.letters)
    return Growth(loom, random_word(rng, loom.letters, most), rules)


def replaced(growth, word):
    return "".join(growth.rules["abcdefghijklmnopqrstuvwxyz".index(letter)] for letter in word)


def written(growth, n, most=10 ** 5):
    """A generation, written out one behind the other; None if one of them has too many letters."""
    word = growth.start
    for _ in range(n):
        word = replaced(growth, word)
        if len(word) > most:
            return None
    return word


def lengths(growth, many):
    """How many letters the first so many generations have, told by counting letters."""
    counts = {letter: growth.start.count(letter) for letter in growth.loom.letters}
    row = []
    for _ in range(many):
        row.append(sum(counts.values()))
        further = dict.fromkeys(counts, 0)
        for letter, times in counts.items():
            for sign in replaced(growth, letter):
                further[sign] += times
        counts = further
    return row


def told_bad_line(text):
    """The number of the first line that is not as told behind those ahead of it, None if it is the text of a growth."""
    if type(text) is not str:
        return 0
    lines = text.split("\n")

    def is_number(word, below):
        return word in [str(number) for number in range(below)]

    def is_word(word, letters):
        return word == "-" or (word != "" and all(sign in letters for sign in word))

    shafts, letters, phase = 0, "", 0
    for number, line in enumerate(lines, 1):
        words = line.split(" ")
        if number == 1:
            right = len(words) == 2 and words[0] == "shafts" and is_number(words[1], 100) and words[1] != "0"
            shafts = int(words[1]) if right else 0
        elif number == 2:
            right = words[0] == "threading" and len(words) > 1 and all(is_number(word, shafts) for word in words[1:])
        elif words[0] == "lift" and phase == 0:
            right = len(letters) < 26 and words[1:2] == [chr(97 + len(letters))] and all(is_number(word, shafts) for word in words[2:])
            right = right and [int(word) for word in words[2:]] == sorted({int(word) for word in words[2:]})
            letters += chr(97 + len(letters))
        elif phase == 0:
            right = letters != "" and len(words) == 2 and words[0] == "start" and is_word(words[1], letters)
            phase = 1
        else:
            right = phase <= len(letters) and words[:2] == ["rule", letters[phase - 1]] and len(words) == 3
            right = right and is_word(words[2], letters)
            phase += 1
        if not right:
            return number
    return None if phase == len(letters) + 1 else len(lines) + 1


class GrowthTest(unittest.TestCase):

    def test_examples(self):
        self.assertEqual([generation(FIBO, n) for n in range(5)], ["a", "ab", "aba", "abaab", "abaababa"])
        self.assertEqual([generation(THUE, n) for n in range(4)], ["a", "ab", "abba", "abbabaab"])
        self.assertEqual(letters_at(FIBO, 4), (5, 3))
        self.assertEqual(picks_at(DOUBLING, 100), 2 ** 100)
        self.assertEqual(picks_modulo(DOUBLING, 10 ** 30, 7), 2)
        self.assertIs(does_lead_on(FIBO), True)
        self.assertIs(does_lead_on(THUE), True)
        self.assertIs(does_grow(TURNS), False)
        self.assertEqual(treadle_in(THUE, 3, 7), "b")
        self.assertEqual(treadle_in(THUE, 100, 2 ** 99 + 1), "a")
        self.assertEqual(stretch_in(FIBO, 4, 2, 5), "aab")

    def test_attributes(self):
        self.assertEqual((FIBO.loom, FIBO.start, FIBO.rules), (PLAIN, "a", ("ab", "a")))
        growth = Growth(loom=LOOSE, start="", rules=("", "c", "ab"))
        self.assertEqual((growth.start, growth.rules), ("", ("", "c", "ab")))
        self.assertEqual([growth.rule_of(letter) for letter in "abc"], ["", "c", "ab"])
        self.assertEqual(growth.rule_of(letter="b"), "c")

    def test_next(self):
        self.assertEqual(FIBO.next_of("abba"), "abaaab")
        self.assertEqual(FIBO.next_of(treadling=""), "")
        self.assertEqual(GONE.next_of("bb"), "")
        for thing in ("c", "aB", "a b", None, 0, ["a"], ("a",), PLAIN, "a\n"):
            self.assertIs(raised(self, BadTreadling, FIBO.next_of, thing).thing, thing)
        for value in some_values(840, 100):
            if not (type(value) is str and set(value) <= {"a", "b"}):
                self.assertIs(raised(self, BadTreadling, FIBO.next_of, value).thing, value)

    def test_wrong_ones(self):
        def told_part(start, rules):
            if not (type(start) is str and set(start) <= {"a", "b"}):
                return "start"
            if not (type(rules) is tuple and len(rules) == 2 and all(type(rule) is str and set(rule) <= {"a", "b"} for rule in rules)):
                return "rules"
            return None

        values = some_values(841, 150)
        starts = [*values, *["", "ab", "abc"]]
        rules = [*values, ("", ""), ("a", "b"), ["a", "b"], ("a",), ("a", "b", "a"), ("a", "c"), ("a", None), ("A", "b")]
        for start in starts:
            for row in (("a", "b"), ("a",), None):
                part = told_part(start, row)
                if part is None:
                    self.assertEqual(Growth(PLAIN, start, row).start, start)
                else:
                    self.assertEqual(raised(self, BadGrowth, Growth, PLAIN, start, row).part, part)
        for row in rules:
            part = told_part("a", row)
            if part is None:
                self.assertEqual(Growth(PLAIN, "a", row).rules, row)
            else:
                self.assertEqual(raised(self, BadGrowth, Growth, PLAIN, "a", row).part, part)

    def test_equality(self):
        self.assertTrue(FIBO == Growth(Loom(2, (0, 1, 0, 1), ((0,), (1,))), "a", ("ab", "a")))
        for other in (Growth(PLAIN, "b", ("ab", "a")), Growth(PLAIN, "a", ("ab", "b")), Growth(PLAIN.threaded((0, 1)), "a", ("ab", "a")),
                      PLAIN, None, str(FIBO), ("a", ("ab", "a"))):
            self.assertFalse(FIBO == other)
            self.assertTrue(FIBO != other)
        for value in some_values(842, 50):
            self.assertIs(DOUBLING == value, False)


class TextsTest(unittest.TestCase):

    def test_texts(self):
        self.assertEqual(str(FIBO), "shafts 2\nthreading 0 1 0 1\nlift a 0\nlift b 1\nstart a\nrule a ab\nrule b a")
        self.assertEqual(str(Growth(Loom(1, (0,), ((),)), "", ("",))), "shafts 1\nthreading 0\nlift a\nstart -\nrule a -")
        rng = random.Random(843)
        for _ in range(100):
            growth = random_growth(rng, 8)
            self.assertEqual(Growth.read(str(growth)), growth)
            self.assertIsNone(told_bad_line(str(growth)))
        letters = "abcdefghijklmnopqrstuvwxyz"
        growth = Growth(Loom(99, (98,), ((),) * 26), letters, tuple(letters))
        self.assertEqual(Growth.read(text=str(growth)), growth)

    def check(self, text):
        line = told_bad_line(text)
        if line is None:
            self.assertEqual(str(Growth.read(text)), text)
        else:
            self.assertEqual(raised(self, BadText, Growth.read, text).line, line, text)

    def test_each_line(self):
        for growth in (FIBO, GONE, Growth(Loom(1, (0,), ((),)), "", ("",)), GREAT, Growth(LOOSE, "", ("", "c", "ab"))):
            lines = str(growth).split("\n")
            for at in range(len(lines)):
                self.check("\n".join(lines[:at] + lines[at + 1:]))
                self.check("\n".join(lines[:at + 1] + lines[at:]))
                self.check("\n".join(lines[:at]))
                self.check("\n".join([*lines[:at], ""]))
                self.check("\n".join([*lines[:at], "", *lines[at:]]))
                for other in range(len(lines)):
                    row = list(lines)
                    row[at], row[other] = row[other], row[at]
                    self.check("\n".join(row))
                    self.check("\n".join([*lines[:at], lines[other], *lines[at + 1:]]))
            self.check(str(growth) + "\n")
            self.check("\n" + str(growth))

    def test_each_sign(self):
        for growth in (FIBO, Growth(Loom(3, (0, 2), ((), (0, 2))), "", ("ab", ""))):
            text = str(growth)
            for at in range(len(text) + 1):
                self.check(text[:at])
                self.check(text[:at] + text[at + 1:])
                for sign in " \n-a0b1cstartrulelift":
                    self.check(text[:at] + sign + text[at:])
                    self.check(text[:at] + sign + text[at + 1:])
                    self.check(text[:at] + sign.upper() + text[at + 1:])

    def test_wrong_lines(self):
        head = "shafts 2\nthreading 0 1\nlift a 0\nlift b 1"
        rules = "\nrule a -\nrule b -"
        for text, line in ((head, 5), (head + "\n", 5), (head + "\nlift b 1" + "\nstart a" + rules, 5), (head + "\nlift d" + rules, 5),
                           (head + "\nrule a -", 5), (head + "\nstart", 5), (head + "\nstart a b" + rules, 5), (head + "\nstart c" + rules, 5),
                           (head + "\nstart --" + rules, 5), (head + "\nstart a-" + rules, 5), (head + "\nstart " + rules, 5),
                           (head + "\nSTART a" + rules, 5), (head + "\nstart a", 6), (head + "\nstart a\nrule b -\nrule a -", 6),
                           (head + "\nstart a\nrule a -", 7), (head + "\nstart a\nrule a -\nrule b", 7), (head + "\nstart a" + rules + "\n", 8),
                           (head + "\nstart a" + rules + "\nrule c -", 8), (head + "\nstart a\nstart a" + rules, 6), ("", 1), ("shafts 2", 2),
                           ("shafts 2\nthreading 0 1", 3), ("shafts 2\nthreading 0 1\nstart a", 3), (head + "\nstart a\nrule a -\nrule b -", None),
                           (head + "\nlift c 0 1\nstart cab\nrule a -\nrule b c\nrule c ab", None), (head + "\n\nstart a" + rules, 5)):
            self.assertEqual(told_bad_line(text), line)
            self.check(text)
        lifts = "\n".join("lift " + letter for letter in "abcdefghijklmnopqrstuvwxyz")
        self.check("shafts 1\nthreading 0\n" + lifts + "\nlift a\nstart -")
        self.assertEqual(raised(self, BadText, Growth.read, "shafts 1\nthreading 0\n" + lifts + "\nlift { \nstart -").line, 29)

    def test_any_values(self):
        for value in some_values(844, 200):
            self.check(value)
        for value in changed_values(845, str(FIBO), 100):
            self.check(value)


class GenerationsTest(unittest.TestCase):

    def test_one_behind_the_other(self):
        rng = random.Random(846)
        for _ in range(150):
            growth = random_growth(rng)
            row = lengths(growth, 12)
            for n in range(12):
                word = written(growth, n, 3000)
                self.assertEqual(picks_at(growth, n), row[n])
                self.assertEqual(sum(letters_at(growth, n)), row[n])
                if word is None:
                    break
                self.assertEqual(letters_at(growth, n), tuple(word.count(letter) for letter in growth.loom.letters))
                if len(word) <= 2000:
                    self.assertEqual(generation(growth, n), word)
                self.assertEqual(generation(growth, n, most=len(word)), word)
                self.assertEqual(raised(self, TooLong, generation, growth, n, most=len(word) - 1).most, len(word) - 1)

    def test_empty_ones(self):
        nothing = Growth(PLAIN, "", ("a", "b"))
        for n in (0, 1, 200):
            self.assertEqual(generation(nothing, n, most=0), "")
            self.assertEqual(picks_at(nothing, n), 0)
            self.assertEqual(letters_at(nothing, n), (0, 0))
        self.assertEqual([generation(GONE, n) for n in range(4)], ["ab", "b", "", ""])
        self.assertEqual(picks_modulo(GONE, 10 ** 30, 5), 0)
        self.assertEqual(raised(self, TooLong, generation, GONE, 0, most=1).most, 1)
        self.assertEqual(generation(growth=GONE, n=200), "")

    def test_a_short_one_behind_long_ones(self):
        # Generation 3 has 512 letters, and with the next rule nothing is left of it.
        growth = Growth(DOUBLE, "a", ("b" * 8, "c" * 8, "d" * 8, ""))
        self.assertEqual([len(generation(growth, n)) for n in range(6)], [1, 8, 64, 512, 0, 0])
        self.assertEqual(generation(growth, 4, most=0), "")
        growth = Growth(DOUBLE, "ab", ("a", "ccccccc", "ddddddddd"[:8], ""))
        self.assertEqual([picks_at(growth, n) for n in range(5)], [2, 8, 57, 1, 1])
        self.assertEqual(generation(growth, 200, most=1), "a")

    def test_too_long(self):
        self.assertEqual(len(generation(DOUBLING, 10)), 1024)
        self.assertEqual(raised(self, TooLong, generation, DOUBLING, 11).most, 2000)
        self.assertEqual(raised(self, TooLong, generation, DOUBLING, 200).most, 2000)
        self.assertEqual(len(generation(DOUBLING, 11, most=2048)), 2048)
        self.assertEqual(raised(self, TooLong, generation, growth=DOUBLING, n=0, most=0).most, 0)

    def test_modulo(self):
        rng = random.Random(847)
        for _ in range(60):
            growth = random_growth(rng)
            row = lengths(growth, 60)
            for n in (0, 1, 2, 3, 17, 59):
                for modulus in (1, 2, 7, 97, 10 ** 6, rng.randrange(1, 10 ** 6)):
                    self.assertEqual(picks_modulo(growth, n, modulus), row[n] % modulus)
        self.assertEqual(picks_modulo(growth=FIBO, n=10 ** 30, modulus=1), 0)
        # By 10 the numbers of Fibonacci come round behind 60 steps, and 10 ** 30 leaves 40 by 60.
        self.assertEqual(picks_modulo(FIBO, 10 ** 30, 10), picks_at(FIBO, 40) % 10)
        self.assertEqual(picks_modulo(DOUBLING, 10 ** 30, 10 ** 6), pow(2, 10 ** 30, 10 ** 6))
        self.assertEqual(picks_modulo(Growth(PLAIN, "ab", ("ab", "b")), 10 ** 30, 10 ** 6), 2)

    def test_leading_on(self):
        rng = random.Random(848)
        told = {True: 0, False: 0}
        for _ in range(300):
            growth = random_growth(rng)
            if rng.random() < 0.3 and growth.start != "":
                rules = list(growth.rules)
                rules[0] = "a" + rules[0][:2]
                growth = Growth(growth.loom, "a" + growth.start[:2], tuple(rules))
            row = [written(growth, n, 20000) for n in range(7)]
            row = [word for word in row if word is not None]
            right = all(later.startswith(word) for word, later in zip(row, row[1:]))
            self.assertIs(does_lead_on(growth), right)
            told[right] += 1
        self.assertGreater(min(told.values()), 30)
        self.assertIs(does_lead_on(growth=Growth(PLAIN, "", ("b", "a"))), True)
        self.assertIs(does_lead_on(GONE), False)
        self.assertIs(does_lead_on(Growth(PLAIN, "b", ("", "b"))), True)

    def test_growing(self):
        rng = random.Random(849)
        told = {True: 0, False: 0}
        for _ in range(400):
            growth = random_growth(rng, 3)
            row = lengths(growth, 300)
            # Without growth the numbers come round soon; with it the last ones go beyond all that came round.
            right = max(row[150:]) > max(row[:100])
            self.assertIs(does_grow(growth), right, str(growth))
            told[right] += 1
        self.assertGreater(min(told.values()), 60)
        for growth, right in ((FIBO, True), (DOUBLING, True), (GONE, False), (Growth(PLAIN, "b", ("aa", "b")), False),
                              (Growth(PLAIN, "a", ("ab", "b")), True), (Growth(PLAIN, "a", ("ab", "")), False),
                              (Growth(PLAIN, "", ("aa", "aa")), False), (Growth(PLAIN, "a", ("bb", "b")), False),
                              (Growth(PLAIN, "a", ("bb", "a")), True), (Growth(PLAIN, "ab", ("aa", "b")), True), (GREAT, True)):
            self.assertIs(does_grow(growth=growth), right)


class PlacesTest(unittest.TestCase):

    def test_each_place(self):
        rng = random.Random(850)
        for _ in range(80):
            growth = random_growth(rng)
            for n in (0, 1, 2, 4, 6):
                word = written(growth, n, 400)
                if word is None:
                    break
                self.assertEqual("".join(treadle_in(growth, n, place) for place in range(len(word))), word)
                for place in (len(word), -1, len(word) + 1, 10 ** 40, -10 ** 40, True, False, None, "0", (0,), 0.5):
                    self.assertIs(raised(self, BadPlace, treadle_in, growth, n, place).place, place)
                for _ in range(10):
                    start = rng.randrange(len(word) + 1)
                    end = rng.randrange(start, len(word) + 1)
                    self.assertEqual(stretch_in(growth, n, start, end), word[start:end])
                    self.assertEqual(element_in(growth, n, start, end), element_of(growth.loom, word[start:end]))
                self.assertEqual(stretch_in(growth, n, 0, len(word)), word)
                self.assertEqual(stretch_in(growth, n, len(word), len(word)), "")
                self.assertEqual(element_at(growth, n), element_of(growth.loom, word))

    def test_far_places(self):
        place = 10 ** 25
        word = stretch_in(THUE, 100, place, place + 300)
        self.assertEqual(word, "".join("ab"[bin(k).count("1") % 2] for k in range(place, place + 300)))
        self.assertEqual([treadle_in(THUE, 100, place + k) for k in range(20)], list(word[:20]))
        last = 2 ** 200 - 1
        self.assertEqual(treadle_in(THUE, 200, last), "a")
        self.assertEqual(stretch_in(THUE, 200, last - 1, last + 1), "ba")
        self.assertEqual(raised(self, BadPlace, treadle_in, THUE, 200, last + 1).place, last + 1)
        self.assertEqual(stretch_in(THUE, 200, last + 1, last + 1), "")
        many = picks_at(FIBO, 200)
        self.assertEqual(stretch_in(FIBO, 200, 0, 2000), generation(FIBO, 16, most=3000)[:2000])
        self.assertEqual(stretch_in(FIBO, 200, many - 2000, many)[-377:], generation(FIBO, 12))

    def test_elements_of_long_ones(self):
        for growth in (FIBO, THUE, DOUBLING, GREAT):
            element = element_at(growth, 40)
            self.assertEqual(element.picks, picks_at(growth, 40))
            middle = element.picks // 3
            self.assertEqual(element_in(growth, 40, 0, middle) + element_in(growth, 40, middle, element.picks), element)
            self.assertEqual(element_in(growth, 40, middle, middle + 900), element_of(growth.loom, stretch_in(growth, 40, middle, middle + 900)))
        self.assertEqual(element_at(growth=DOUBLING, n=40).runs, ((2 ** 40, 2 ** 40, 2 ** 40, 0), (-2 ** 40, -2 ** 40, 0, 2 ** 40)))
        self.assertEqual(element_at(Growth(PLAIN, "", ("a", "b")), 40), element_of(PLAIN, ""))

    def test_wrong_places(self):
        for value in [*some_values(851, 100), 10 ** 40, -10 ** 40, 9, -1]:
            if type(value) is int and 0 <= value <= 8:
                continue
            for call in (stretch_in, element_in):
                self.assertIs(raised(self, BadPlace, call, FIBO, 4, value, 0).place, value)
                self.assertIs(raised(self, BadPlace, call, FIBO, 4, value, value).place, value)
                self.assertIs(raised(self, BadPlace, call, FIBO, 4, 0, value).place, value)
        for call in (stretch_in, element_in):
            self.assertEqual(raised(self, BadPlace, call, FIBO, 4, 3, 2).place, 2)
            self.assertEqual(raised(self, BadPlace, call, FIBO, 4, start=9, end=8).place, 9)

    def test_too_long(self):
        self.assertEqual(raised(self, TooLong, stretch_in, THUE, 100, 5, 2006).most, 2000)
        self.assertEqual(len(stretch_in(THUE, 100, 5, 2005)), 2000)
        self.assertEqual(raised(self, TooLong, stretch_in, growth=THUE, n=100, start=5, end=8, most=2).most, 2)
        self.assertEqual(stretch_in(THUE, 100, 5, 7, most=2), "aa")
        self.assertEqual(stretch_in(THUE, 100, 7, 7, most=0), "")
        self.assertEqual(raised(self, BadPlace, stretch_in, THUE, 3, 0, 9, most=0).place, 9)
        self.assertEqual(raised(self, BadPlace, stretch_in, THUE, 3, 8, 7, most=0).place, 7)

    def test_letters_that_vanish(self):
        growth = Growth(LOOSE, "acb", ("acb", "b", ""))
        word = written(growth, 5)
        self.assertEqual([treadle_in(growth, 5, place) for place in range(len(word))], list(word))
        self.assertEqual(stretch_in(growth, 200, 0, 3), "acb")
        self.assertEqual(stretch_in(growth, 200, 198, 203), "b" * 5)

    def test_the_same_again(self):
        row = [(generation, 9), (picks_at, 200), (letters_at, 200), (element_at, 30)]
        for call, n in row:
            self.assertEqual(call(FIBO, n), call(Growth.read(str(FIBO)), n))
        self.assertEqual(FIBO, Growth(PLAIN, "a", ("ab", "a")))

    def test_changed_parts(self):
        for value in all_changed(("ab", "a")):
            right = type(value) is tuple and len(value) == 2 and all(type(rule) is str and set(rule) <= {"a", "b"} for rule in value)
            if right:
                self.assertEqual(Growth(PLAIN, "a", value).rules, value)
            else:
                self.assertEqual(raised(self, BadGrowth, Growth, PLAIN, "a", value).part, "rules")


if __name__ == "__main__":
    unittest.main()
