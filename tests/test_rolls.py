"""Rolls: point 19, their texts (point 20), and what any values are answered."""

import random
import time
import unittest

from loomhold.elements import element_of
from loomhold.errors import BadPlace, BadRoll, BadText, TooLong
from loomhold.looms import Loom
from loomhold.rolls import (
    element_of_roll, first_pick_apart, is_roll, picks_of, roll_read, stretch, text_of_roll, treadle_at, treadling_of)
from tests.helpers import DOUBLE, PLAIN, changed_values, raised, random_value, some_values

MOST = 10 ** 30
FAR = ("ab", (MOST, ("ab", (MOST, ("b", (0, ("a",)))))))


def nested(depth, roll):
    """A roll within so many pairs."""
    for _ in range(depth):
        roll = ((2, roll),)
    return roll


def is_right_roll(letters, thing, depth=12):
    """Tell whether a value is a roll, as point 19 words it."""
    if type(thing) is not tuple:
        return False
    for item in thing:
        if type(item) is str and item != "" and set(item) <= set(letters):
            continue
        if type(item) is not tuple or len(item) != 2 or depth == 0 or type(item[0]) is not int:
            return False
        if not 0 <= item[0] <= MOST or not is_right_roll(letters, item[1], depth - 1):
            return False
    return True


def written_out(roll):
    return "".join(item if isinstance(item, str) else item[0] * written_out(item[1]) for item in roll)


def random_roll(rng, letters="ab", depth=3, most=4):
    """Some roll; few of its pairs are repeated often."""
    roll = []
    for _ in range(rng.randrange(most)):
        if depth > 0 and rng.random() < 0.5:
            roll.append((rng.randrange(4), random_roll(rng, letters, depth - 1, most)))
        else:
            roll.append("".join(rng.choice(letters) for _ in range(rng.randrange(1, 4))))
    return tuple(roll)


def flat_roll(rng, far):
    """Some flat roll within the limits; its pairs may have very many times."""
    roll = []
    for _ in range(rng.randrange(5)):
        word = "".join(rng.choice("ab") for _ in range(rng.randrange(1, 5)))
        if rng.random() < 0.6:
            inner = (word,) if rng.random() < 0.5 else (word, rng.choice(["a", "b", "ab"]))
            times = rng.choice([0, 1, 2, 3, 4, *([10 ** 9, MOST - 1, MOST] if far else [])])
            roll.append((times, inner if rng.random() < 0.9 else ()))
        else:
            roll.append(word)
    return tuple(roll)


def told_apart(one, other):
    """The place told from both treadlings."""
    for place in range(min(len(one), len(other))):
        if one[place] != other[place]:
            return place
    return None if one == other else min(len(one), len(other))


class IsRollTest(unittest.TestCase):

    def test_rolls(self):
        for roll in ((), ("a",), ("ab", "ba"), ((0, ()),), ((MOST, ("a",)),), ((1, ((1, ()), "b")), "a"), nested(12, ("a",)),
                     nested(12, ()), FAR, ("a" * 4000,), ("a",) * 5000):
            self.assertIs(is_roll(PLAIN, roll), True)

    def test_no_rolls(self):
        for thing in ([], "ab", ("",), ("c",), ("A",), ("a\n",), (("a",),), ((1, "a"),), ((True, ("a",)),), ((-1, ("a",)),), ((1,),),
                      ((MOST + 1, ()),), ((1, ["a"]),), ([1, ("a",)],), ((1, ("a",), 2),), ((0, ("c",)),), ((0, ("",)),), (None,),
                      ((("a",), 1),), nested(13, ("a",)), nested(13, ()), nested(40, ()), (1, ("a",)), (("1", ("a",)),), ("a", ["b"]),
                      nested(12, ((1, ()),)), (PLAIN,), {}, None, 0, True):
            self.assertIs(is_roll(PLAIN, thing), False, thing)
        self.assertIs(is_roll(loom=DOUBLE, thing=("abcd",)), True)

    def test_any_values(self):
        for value in some_values(81, 500):
            self.assertIs(is_roll(PLAIN, value), is_right_roll("ab", value))
        rng = random.Random(82)
        for seed in range(60):
            for value in changed_values(seed, random_roll(rng), 40):
                self.assertIs(is_roll(PLAIN, value), is_right_roll("ab", value), value)

    def test_bad_roll_ahead_of_all_else(self):
        calls = [(picks_of, ()), (treadle_at, (-1,)), (treadle_at, (None,)), (stretch, ("a", [])), (element_of_roll, ()),
                 (treadling_of, ()), (first_pick_apart, (("c",),)), (text_of_roll, ())]
        rng = random.Random(83)
        values = [value for value in some_values(84, 200) if not is_right_roll("ab", value)]
        for value in [*values, nested(13, ()), *[(random_value(rng), "c") for _ in range(20)]]:
            for call, more in calls:
                self.assertIs(raised(self, BadRoll, call, PLAIN, value, *more).thing, value)
            self.assertIs(raised(self, BadRoll, first_pick_apart, PLAIN, ("a",), other=value).thing, value)


class RollTest(unittest.TestCase):

    def test_examples(self):
        roll = ("a", (3, ("ab", (2, ("b",)))))
        self.assertEqual(picks_of(PLAIN, roll), 13)
        self.assertEqual(treadle_at(PLAIN, roll, 3), "b")
        self.assertEqual(text_of_roll(PLAIN, roll), "a 3(ab 2(b))")
        self.assertIsNone(first_pick_apart(PLAIN, ("ab", (2, ("ab",))), ((3, ("ab",)),)))
        self.assertEqual(first_pick_apart(PLAIN, ("aa",), ("ab",)), 1)
        self.assertEqual(first_pick_apart(PLAIN, (), ("a",)), 0)

    def test_against_the_treadling(self):
        rng = random.Random(85)
        for _ in range(400):
            roll = random_roll(rng)
            word = written_out(roll)
            if len(word) > 300:
                continue
            self.assertEqual(picks_of(loom=PLAIN, roll=roll), len(word))
            self.assertEqual(treadling_of(PLAIN, roll), word)
            self.assertEqual(element_of_roll(loom=PLAIN, roll=roll), element_of(PLAIN, word))
            for place, letter in enumerate(word):
                self.assertEqual(treadle_at(PLAIN, roll, place), letter)
            for _ in range(20):
                start = rng.randrange(len(word) + 1)
                end = rng.randrange(start, len(word) + 1)
                piece = stretch(PLAIN, roll, start, end)
                self.assertTrue(is_right_roll("ab", piece))
                self.assertEqual(written_out(piece), word[start:end])

    def test_places(self):
        roll = ("ab", (2, ("b",)))
        for place in (4, 5, -1, MOST, True, False, None, "0", (0,), [0], PLAIN):
            self.assertIs(raised(self, BadPlace, treadle_at, PLAIN, roll, place).place, place)
        for place in (5, -1, MOST, True, False, None, "0", (0,), [0], PLAIN):
            self.assertIs(raised(self, BadPlace, stretch, PLAIN, roll, place, 0).place, place)
            self.assertIs(raised(self, BadPlace, stretch, PLAIN, roll, place, None).place, place)
            self.assertIs(raised(self, BadPlace, stretch, PLAIN, roll, 0, place).place, place)
        self.assertEqual(raised(self, BadPlace, stretch, PLAIN, roll, 3, 2).place, 2)
        self.assertEqual(raised(self, BadPlace, stretch, PLAIN, roll, start=5, end=2).place, 5)
        self.assertEqual(written_out(stretch(PLAIN, roll, start=4, end=4)), "")
        self.assertEqual(written_out(stretch(PLAIN, roll, 0, 4)), "abbb")
        for value in some_values(86, 200):
            if type(value) is not int or not 0 <= value < 4:
                self.assertIs(raised(self, BadPlace, treadle_at, PLAIN, roll, place=value).place, value)
        self.assertEqual(raised(self, BadPlace, treadle_at, PLAIN, (), 0).place, 0)

    def test_times_nought_and_no_items(self):
        roll = ("a", (0, ((MOST, ("ab",)),)), (MOST, ()), (MOST, ((MOST, ()), (0, ("b",)))), (1, ("b",)))
        self.assertEqual(picks_of(PLAIN, roll), 2)
        self.assertEqual(treadling_of(PLAIN, roll), "ab")
        self.assertEqual(treadle_at(PLAIN, roll, 1), "b")
        self.assertEqual(written_out(stretch(PLAIN, roll, 1, 2)), "b")
        self.assertEqual(stretch(PLAIN, roll, 1, 1), ())
        self.assertEqual(element_of_roll(PLAIN, roll), element_of(PLAIN, "ab"))
        self.assertEqual(element_of_roll(PLAIN, ()), element_of(PLAIN, ""))
        self.assertEqual(treadling_of(PLAIN, ((MOST, ()),)), "")
        self.assertIsNone(first_pick_apart(PLAIN, ("a", (0, ("b",)), (MOST, ()), "b"), ((1, ("ab",)), (0, ()))))

    def test_very_many_picks(self):
        begun = time.monotonic()
        picks = picks_of(PLAIN, FAR)
        self.assertEqual(picks, 2 + MOST * (2 + MOST))
        self.assertEqual([treadle_at(PLAIN, FAR, place) for place in (0, 1, 2, 3, 4, picks - 1)], ["a", "b", "a", "b", "b", "b"])
        self.assertEqual(treadle_at(PLAIN, FAR, 2 + (2 + MOST) * 12345678901234567890), "a")
        piece = stretch(PLAIN, FAR, 1, picks - 1)
        self.assertTrue(is_roll(PLAIN, piece))
        self.assertEqual(picks_of(PLAIN, piece), picks - 2)
        element = element_of_roll(PLAIN, FAR)
        self.assertEqual(element.picks, picks)
        self.assertEqual(element.runs, ((1, -MOST - 1, 1, MOST + 1), (-1, MOST + 1, MOST + 1, 1)))
        self.assertEqual(element_of_roll(PLAIN, stretch(PLAIN, FAR, 0, MOST)) + element_of_roll(PLAIN, stretch(PLAIN, FAR, MOST, picks)),
                         element)
        deep = ("a",)
        for _ in range(12):
            deep = ((MOST, deep), "b")
        self.assertTrue(is_roll(PLAIN, deep))
        self.assertEqual(roll_read(PLAIN, text_of_roll(PLAIN, deep)), deep)
        picks = picks_of(PLAIN, deep)
        third = stretch(PLAIN, deep, picks // 3, picks // 3 * 2)
        self.assertTrue(is_roll(PLAIN, third))
        self.assertEqual(picks_of(PLAIN, third), picks // 3 * 2 - picks // 3)
        whole = element_of_roll(PLAIN, stretch(PLAIN, deep, 0, picks // 3))
        whole = whole + element_of_roll(PLAIN, third) + element_of_roll(PLAIN, stretch(PLAIN, deep, picks // 3 * 2, picks))
        self.assertEqual(whole, element_of_roll(PLAIN, deep))
        self.assertLess(time.monotonic() - begun, 5)

    def test_too_long(self):
        roll = ((20, ("ab",)),)
        self.assertEqual(treadling_of(PLAIN, roll, most=40), "ab" * 20)
        self.assertEqual(raised(self, TooLong, treadling_of, PLAIN, roll, most=39).most, 39)
        self.assertEqual(raised(self, TooLong, treadling_of, loom=PLAIN, roll=FAR).most, 2000)
        self.assertEqual(treadling_of(PLAIN, ((2000, ("b",)),)), "b" * 2000)
        self.assertEqual(raised(self, TooLong, treadling_of, PLAIN, ((2001, ("b",)),)).most, 2000)
        self.assertEqual(treadling_of(PLAIN, (), most=0), "")
        self.assertEqual(raised(self, TooLong, treadling_of, PLAIN, ("a",), most=0).most, 0)
        with self.assertRaises(TypeError):
            treadling_of(PLAIN, (), 5)


class ApartTest(unittest.TestCase):

    def test_letter_by_letter(self):
        rng = random.Random(87)
        alike = 0
        for _ in range(3000):
            one = flat_roll(rng, False)
            other = flat_roll(rng, False)
            told = told_apart(written_out(one), written_out(other))
            self.assertEqual(first_pick_apart(PLAIN, one, other), told)
            self.assertEqual(first_pick_apart(PLAIN, one=other, other=one), told)
            alike += told is None
        self.assertGreater(alike, 20)

    def test_far_ones(self):
        many = 10 ** 29
        self.assertIsNone(first_pick_apart(PLAIN, ((many * 3, ("ab",)),), ((many, ("abab",)), (many, ("ab",)))))
        self.assertIsNone(first_pick_apart(PLAIN, ((many, ("ab",)), "a"), ("a", (many, ("ba",)))))
        self.assertEqual(first_pick_apart(PLAIN, ((many, ("ab",)), "a"), ("a", (many, ("ba",)), "b")), 2 * many + 1)
        self.assertEqual(first_pick_apart(PLAIN, ((many, ("ab",)), "aa"), ("a", (many, ("ba",)), "b")), 2 * many + 1)
        self.assertEqual(first_pick_apart(PLAIN, ((MOST, ("a",)), "b"), ((MOST, ("a",)), "a")), MOST)
        self.assertEqual(first_pick_apart(PLAIN, ((MOST, ("a",)),), ((MOST - 1, ("a",)),)), MOST - 1)
        self.assertEqual(first_pick_apart(PLAIN, ((MOST, ("abaababa", "abaab")),), ((MOST, ("abaab", "abaababa")),)), 11)
        one = tuple((many, ("ab", "aab")) for _ in range(12))
        other = ((many * 6, ("abaab",)), (many * 5, ("a", "b", "aab")), (many, ("abaab",)))
        self.assertIsNone(first_pick_apart(PLAIN, one, other))
        self.assertEqual(first_pick_apart(PLAIN, one, (*other[:2], (many, ("abaaa",)))), many * 55 + 4)

    def test_at_once(self):
        begun = time.monotonic()
        rng = random.Random(88)
        for _ in range(1500):
            one = flat_roll(rng, True)
            other = flat_roll(rng, True)
            apart = first_pick_apart(PLAIN, one, other)
            picks = picks_of(PLAIN, one)
            if apart is None:
                self.assertEqual(picks, picks_of(PLAIN, other))
            elif apart < min(picks, picks_of(PLAIN, other)):
                self.assertNotEqual(treadle_at(PLAIN, one, apart), treadle_at(PLAIN, other, apart))
            else:
                self.assertEqual(apart, min(picks, picks_of(PLAIN, other)))
        self.assertLess(time.monotonic() - begun, 20)

    def test_words_that_agree_for_long(self):
        # Powers of words of m and n letters can agree on m + n - 2 letters and part then.
        one = ((MOST, ("abaab", "aba")),)
        other = ((MOST, ("abaab",)),)
        self.assertEqual(first_pick_apart(PLAIN, one, other), told_apart("abaababa" * 9, "abaab" * 9))
        self.assertEqual(first_pick_apart(PLAIN, one, other), 11)


class RollTextTest(unittest.TestCase):

    def test_texts(self):
        for roll, text in (((), "-"), (("a", "b"), "a b"), (((0, ()),), "0(-)"), (((2, ((3, ()), "a")), "b"), "2(3(-) a) b"),
                           (((MOST, ("ab",)),), "1" + "0" * 30 + "(ab)"), (nested(12, ()), "2(" * 12 + "-" + ")" * 12)):
            self.assertEqual(text_of_roll(PLAIN, roll), text)
            self.assertEqual(roll_read(PLAIN, text), roll)
        self.assertEqual(roll_read(loom=DOUBLE, text="abcd 2(d)"), ("abcd", (2, ("d",))))

    def test_read_back(self):
        rng = random.Random(89)
        for _ in range(500):
            roll = random_roll(rng, depth=5)
            self.assertEqual(roll_read(PLAIN, text_of_roll(loom=PLAIN, roll=roll)), roll)
        long = ("ab",) * 4000
        self.assertEqual(roll_read(PLAIN, text_of_roll(PLAIN, long)), long)

    def test_no_texts(self):
        bad = ["", " ", "--", "- a", "a -", "-a", "c", "a c", "a  b", " a", "a ", "a\nb", "2", "2(", "2()", "2(a", "2(a))", "02(a)", "2 (a)",
               "2( a)", "2(a )", "2(a)b", "a2(b)", "+2(a)", "-2(a)", "2[a]", "(a)", "2(c)", "0(c)", "1" + "0" * 29 + "1(a)(b)",
               "1" + "0" * 29 + "1 a", "1000000000000000000000000000001(a)", "9" * 31 + "(a)", "9" * 3990 + "(a)", "2(" * 13 + "-" + ")" * 13,
               "2(" * 1999 + "-", "1(" * 1300 + "a" + ")" * 1300, "2(-)-", "2(-))", "2(- a)", "A", "2(a)\n", "1_0(a)", "()", "-(a)"]
        for text in bad:
            self.assertEqual(raised(self, BadText, roll_read, PLAIN, text).line, 0, text[:50])

    def test_any_values(self):
        for value in some_values(90, 400):
            try:
                roll = roll_read(PLAIN, value)
            except BadText as error:
                self.assertEqual(error.line, 0)
            else:
                self.assertEqual(text_of_roll(PLAIN, roll), value)

    def test_changed_texts(self):
        rng = random.Random(91)
        read = 0
        for _ in range(3000):
            text = text_of_roll(PLAIN, random_roll(rng))
            at = rng.randrange(len(text) + 1)
            other = text[:at] + rng.choice(["", *"ab 0129()-"]) + text[at + rng.randrange(3):]
            try:
                roll = roll_read(PLAIN, other)
            except BadText as error:
                self.assertEqual(error.line, 0)
            else:
                read += 1
                self.assertTrue(is_right_roll("ab", roll))
                self.assertEqual(text_of_roll(PLAIN, roll), other)
        self.assertGreater(read, 300)

    def test_letters_of_the_loom(self):
        self.assertEqual(raised(self, BadText, roll_read, Loom(1, (0,), ((),)), "ab").line, 0)


if __name__ == "__main__":
    unittest.main()
