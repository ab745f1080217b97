"""Elements: points 17 and 18."""

import random
import unittest

from loomhold.byletters import do_hold, letters_of
from loomhold.elements import Element, element_of, joined_capped
from loomhold.errors import BadTreadling, OtherLoom
from loomhold.levels import does_hold
from loomhold.cloths import woven
from loomhold.looms import Loom
from tests.helpers import SPARE, DOUBLE, LOOSE, PLAIN, raised, random_loom, random_word, some_values


def told_parts(loom, word):
    """The four attributes as point 17 words them, pick by pick."""
    lifts = [loom.lifts["abcdefghijklmnopqrstuvwxyz".index(letter)] for letter in word]
    shafts = range(loom.shafts)
    pairs = tuple((s, t) for s in shafts for t in shafts if any(s in lift and t not in lift for lift in lifts))
    used = set(loom.threading)
    loose = (any(not used & set(lift) for lift in lifts), any(used <= set(lift) for lift in lifts))
    runs = []
    for shaft in shafts:
        sides = "".join("u" if shaft in lift else "d" for lift in lifts)
        begin = len(sides) - len(sides.lstrip(sides[:1])) if sides else 0
        end = len(sides) - len(sides.rstrip(sides[-1:])) if sides else 0
        up = max([len(run) for run in sides.split("d")])
        down = max([len(run) for run in sides.split("u")])
        runs.append((begin if sides[:1] == "u" else -begin, end if sides[-1:] == "u" else -end, up, down))
    return (len(word), pairs, loose, tuple(runs))


def parts(element):
    return (element.picks, element.pairs, element.loose, element.runs)


def told_cut(element, top):
    runs = tuple(tuple(top if n > top else -top if n < -top else n for n in run) for run in element.runs)
    return (element.pairs, element.loose, runs)


class ElementTest(unittest.TestCase):

    def test_examples(self):
        element = element_of(PLAIN, "aab")
        self.assertEqual(element.loom, PLAIN)
        self.assertEqual(parts(element), (3, ((0, 1), (1, 0)), (False, False), ((2, -1, 2, 1), (-2, 1, 1, 2))))
        self.assertIs(element.holds, True)
        self.assertEqual(element.longest_float, 2)
        self.assertIs((element_of(PLAIN, "a") + element_of(PLAIN, "ab")) == element_of(PLAIN, "aab"), True)
        most = 10 ** 30
        self.assertEqual(element_of(PLAIN, "a").times(most).runs, ((most, most, most, 0), (-most, -most, 0, most)))
        self.assertEqual(element.cut_off(1), (((0, 1), (1, 0)), (False, False), ((1, -1, 1, 1), (-1, 1, 1, 1))))

    def test_without_picks(self):
        for loom in (PLAIN, DOUBLE, SPARE):
            element = element_of(loom, "")
            self.assertEqual(parts(element), (0, (), (False, False), ((0, 0, 0, 0),) * loom.shafts))
            self.assertIs(element.holds, False)
            self.assertEqual(element.longest_float, 0)
            self.assertEqual(element.times(10 ** 30), element)
            self.assertEqual(element + element, element)
            self.assertEqual(element.cut_off(top=3), ((), (False, False), ((0, 0, 0, 0),) * loom.shafts))

    def test_shafts_without_ends(self):
        # The shaft 2 of SPARE has no end: it has pairs and runs, but no floats, and is nothing to loose picks.
        element = element_of(SPARE, "bbb")
        self.assertEqual(element.pairs, ((0, 1), (0, 3), (2, 1), (2, 3)))
        self.assertEqual(element.runs[2], (3, 3, 3, 0))
        loom = Loom(3, (0, 1), ((2,), (0, 1), (0,), (1,)))
        self.assertEqual(element_of(loom, "a").loose, (True, False))
        self.assertEqual(element_of(loom, "b").loose, (False, True))
        self.assertEqual(element_of(loom, "cdcd").longest_float, 1)
        self.assertEqual(element_of(loom, "cdcd").runs[2], (-4, -4, 0, 4))
        self.assertIs(element_of(loom, "cd").holds, True)
        self.assertIs(element_of(loom, "cda").holds, False)
        self.assertIs(element_of(loom, "cdb").holds, False)

    def test_pick_by_pick(self):
        rng = random.Random(71)
        for _ in range(500):
            loom = random_loom(rng, 5, 6, 4)
            word = random_word(rng, loom.letters, 12)
            element = element_of(loom, word)
            self.assertEqual(parts(element), told_parts(loom, word))
            self.assertEqual(element.longest_float, max([max(element.runs[s][2:]) for s in loom.used]))
            self.assertIs(element.holds, word != "" and does_hold(woven(loom, word)))
            self.assertIs(element.holds, do_hold(loom, letters_of(word)))

    def test_any_values(self):
        for value in some_values(72, 300):
            if isinstance(value, str) and set(value) <= set("ab"):
                self.assertEqual(element_of(PLAIN, treadling=value).picks, len(value))
            else:
                self.assertIs(raised(self, BadTreadling, element_of, PLAIN, value).thing, value)

    def test_equal(self):
        element = element_of(PLAIN, "ab")
        self.assertTrue(element == element_of(Loom(2, (0, 1, 0, 1), ((0,), (1,))), "ab"))
        for other in (element_of(PLAIN, "ba"), element_of(PLAIN, "abab"), element_of(PLAIN.threaded((0, 1)), "ab"), "ab", None,
                      parts(element), PLAIN, 2):
            self.assertFalse(element == other)
            self.assertTrue(element != other)
        # What two looms do alike still is of unlike looms.
        self.assertFalse(element_of(PLAIN, "") == element_of(LOOSE, ""))
        self.assertTrue(isinstance(element, Element))


class JoinedTest(unittest.TestCase):

    def test_in_whichever_order(self):
        rng = random.Random(73)
        for _ in range(500):
            loom = random_loom(rng)
            words = [random_word(rng, rng.choice([loom.letters, loom.letters[:1]]), 5) for _ in range(3)]
            one, two, three = [element_of(loom, word) for word in words]
            whole = element_of(loom, "".join(words))
            self.assertEqual((one + two) + three, whole)
            self.assertEqual(one + (two + three), whole)
            self.assertEqual(parts(whole), told_parts(loom, "".join(words)))
            self.assertEqual(parts(one), told_parts(loom, words[0]))

    def test_other_looms(self):
        one = element_of(PLAIN, "ab")
        for loom in (LOOSE, PLAIN.threaded((0, 1, 0)), PLAIN.with_lift("a", ())):
            with self.assertRaises(OtherLoom):
                one + element_of(loom, "ab")
            with self.assertRaises(OtherLoom):
                element_of(loom, "") + one
        self.assertEqual(one + element_of(Loom(2, (0, 1, 0, 1), ((0,), (1,))), ""), one)

    def test_times(self):
        rng = random.Random(74)
        for _ in range(300):
            loom = random_loom(rng)
            word = random_word(rng, rng.choice([loom.letters, loom.letters[:1]]), 5)
            element = element_of(loom, word)
            for many in range(6):
                self.assertEqual(element.times(many), element_of(loom, word * many))
            self.assertEqual(element.times(many=12).times(10 ** 6), element.times(12 * 10 ** 6))
            self.assertEqual(element.times(10 ** 30 - 1) + element, element.times(10 ** 30))

    def test_far_powers(self):
        far = element_of(PLAIN, "aab").times(10 ** 30)
        self.assertEqual(parts(far), (3 * 10 ** 30, ((0, 1), (1, 0)), (False, False), ((2, -1, 2, 1), (-2, 1, 1, 2))))
        meets = element_of(PLAIN, "aaba").times(10 ** 30)
        self.assertEqual(meets.runs, ((2, 1, 3, 1), (-2, -1, 1, 3)))
        self.assertEqual(meets.longest_float, 3)
        self.assertIs(meets.holds, True)
        self.assertIs(element_of(PLAIN, "a").times(10 ** 30).holds, False)
        self.assertEqual(element_of(PLAIN, "b").times(10 ** 30).longest_float, 10 ** 30)


class CutOffTest(unittest.TestCase):

    def test_cut_off(self):
        rng = random.Random(75)
        for _ in range(300):
            loom = random_loom(rng)
            element = element_of(loom, random_word(rng, loom.letters[:2], 12))
            for top in (1, 2, 3, 5, 40):
                self.assertEqual(element.cut_off(top), told_cut(element, top))

    def test_joined_capped(self):
        rng = random.Random(76)
        for _ in range(600):
            loom = random_loom(rng)
            letters = rng.choice([loom.letters, loom.letters[:2], loom.letters[:1]])
            one = element_of(loom, random_word(rng, letters, 7))
            other = element_of(loom, random_word(rng, letters, 7))
            for top in (1, 2, 3, 6, 40):
                told = joined_capped(loom, one.cut_off(top), other.cut_off(top), top)
                self.assertEqual(told, (one + other).cut_off(top))
                by_name = joined_capped(loom=loom, one=one.cut_off(top), other=other.cut_off(top), top=top)
                self.assertEqual(by_name, told)


if __name__ == "__main__":
    unittest.main()
