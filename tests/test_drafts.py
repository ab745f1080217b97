"""Drafts and reduced looms: points 59 and 60."""

import itertools
import random
import unittest

from loomhold.cloths import Cloth, woven
from loomhold.drafts import (
    end_kinds, fewest_shafts, fewest_treadles, first_crossing, is_draft_of, is_reduced, least_draft, led_treadling, pick_kinds, reduced,
    unlike_holds, unlike_paper)
from loomhold.errors import BadTreadling
from loomhold.looms import Loom
from tests.helpers import (
    DOUBLE, LOOSE, PLAIN, SPARE, all_changed, changed_values, is_sorted, is_true_int, raised, random_cloth, random_loom, random_word, some_values)

TABBY = Cloth(("x-x-", "-x-x", "x-x-"))


def columns(cloth):
    return ["".join(pick[end] for pick in cloth.picks) for end in range(cloth.ends)]


def told_kinds(row):
    firsts = sorted(set(row), key=row.index)
    return tuple(firsts.index(item) for item in row)


def laid(loom, word):
    """The picks of a treadling, sign by sign."""
    lifts = dict(zip(loom.letters, loom.lifts))
    return tuple("".join("x" if shaft in lifts[letter] else "-" for shaft in loom.threading) for letter in word)


def is_right_draft(cloth, thing):
    if type(thing) is not tuple or len(thing) != 2 or type(thing[0]) is not Loom or type(thing[1]) is not str:
        return False
    return thing[1] != "" and set(thing[1]) <= set(thing[0].letters) and laid(*thing) == cloth.picks


def is_right_unlike(cloth, thing):
    if type(thing) is not tuple or len(thing) != 3 or type(thing[0]) is not str or thing[0] != "unlike":
        return False
    for part, row in zip(thing[1:], (columns(cloth), list(cloth.picks))):
        if type(part) is not tuple or not all(is_true_int(number) and 0 <= number < len(row) for number in part) or not is_sorted(part):
            return False
        if len(part) != len(set(row)) or len({row[number] for number in part}) != len(part):
            return False
    return True


def all_looms(shafts, ends, letters):
    """All looms of a size."""
    lifts = [tuple(s for s in range(shafts) if mask >> s & 1) for mask in range(2 ** shafts)]
    for threading in itertools.product(range(shafts), repeat=ends):
        for row in itertools.product(lifts, repeat=letters):
            yield Loom(shafts, threading, row)


class DraftsTest(unittest.TestCase):

    def test_examples(self):
        self.assertEqual(least_draft(TABBY), (Loom(2, (0, 1, 0, 1), ((0,), (1,))), "aba"))
        self.assertIs(unlike_holds(TABBY, ("unlike", (0, 1), (0, 1))), True)
        self.assertEqual(unlike_paper(TABBY)[0], "unlike")
        self.assertEqual(first_crossing((PLAIN, "ab"), (PLAIN, "aa")), (1, 0))
        self.assertEqual(first_crossing((PLAIN, "a"), (PLAIN, "ab")), (1, 0))

    def test_kinds(self):
        rng = random.Random(920)
        for _ in range(200):
            cloth = random_cloth(rng)
            self.assertEqual(end_kinds(cloth), told_kinds(columns(cloth)))
            self.assertEqual(pick_kinds(cloth), told_kinds(list(cloth.picks)))
            self.assertEqual(fewest_shafts(cloth), len(set(columns(cloth))))
            self.assertEqual(fewest_treadles(cloth), len(set(cloth.picks)))
        self.assertEqual(end_kinds(cloth=TABBY), (0, 1, 0, 1))
        self.assertEqual(pick_kinds(cloth=TABBY), (0, 1, 0))
        self.assertEqual((fewest_shafts(cloth=TABBY), fewest_treadles(cloth=TABBY)), (2, 2))
        self.assertEqual(end_kinds(Cloth(("-",))), (0,))

    def test_least_drafts(self):
        rng = random.Random(921)
        for _ in range(150):
            cloth = random_cloth(rng, 6, 6)
            loom, word = least_draft(cloth)
            self.assertEqual(laid(loom, word), cloth.picks)
            self.assertEqual(loom.shafts, fewest_shafts(cloth))
            self.assertEqual(loom.threading, told_kinds(columns(cloth)))
            self.assertEqual(word, "".join("abcdef"[kind] for kind in told_kinds(list(cloth.picks))))
            self.assertEqual(len(loom.letters), fewest_treadles(cloth))
            self.assertIs(is_draft_of(cloth, (loom, word)), True)
            self.assertTrue(is_right_unlike(cloth, unlike_paper(cloth)))
            self.assertIs(unlike_holds(cloth, unlike_paper(cloth)), True)
        self.assertEqual(least_draft(cloth=Cloth(("---",))), (Loom(1, (0, 0, 0), ((),)), "a"))

    def test_no_draft_has_fewer(self):
        # All looms of a size, and all treadlings: the fewest used shafts, and letters, of those that weave a cloth.
        shafts, letters = {}, {}
        for loom in all_looms(2, 3, 2):
            for many in (1, 2):
                for word in itertools.product("ab", repeat=many):
                    picks = laid(loom, word)
                    shafts[picks] = min(shafts.get(picks, 9), len(loom.used))
                    letters[picks] = min(letters.get(picks, 9), len(set(word)))
        for picks, many in shafts.items():
            self.assertEqual(fewest_shafts(Cloth(picks)), many)
            self.assertEqual(fewest_treadles(Cloth(picks)), letters[picks])

    def test_large_ones(self):
        rng = random.Random(922)
        cloth = Cloth(tuple("".join(rng.choice("x-") for _ in range(12)) for _ in range(12)))
        self.assertEqual(laid(*least_draft(cloth)), cloth.picks)
        cloth = woven(DOUBLE, "abcd" * 15)
        self.assertEqual(least_draft(cloth)[1], "abcd" * 15)
        rows = ["".join("x" if i >> k & 1 else "-" for k in range(7)) for i in range(99)]
        cloth = Cloth(tuple("".join(row[k] for row in rows) for k in range(7)))
        self.assertEqual(least_draft(cloth)[0].shafts, 99)

    def test_any_drafts(self):
        for cloth in (TABBY, Cloth(("x",)), Cloth(("x-x-", "-x-x")), Cloth(("x---",))):
            for value in some_values(923, 200):
                self.assertIs(is_draft_of(cloth, value), is_right_draft(cloth, value), value)
        loom, word = least_draft(TABBY)
        for thing, right in (((loom, word), True), ((PLAIN, "aba"), True), ((PLAIN.with_lift("b", (0, 1)), "aba"), False),
                             ((Loom(4, (0, 1, 2, 3), ((0, 2), (1, 3))), "aba"), True), ((Loom(2, (1, 0, 1, 0), ((0,), (1,))), "bab"), True),
                             ((PLAIN, "abab"), False), ((PLAIN, "ab"), False), ((PLAIN, ""), False), ((PLAIN, "abc"), False),
                             ([PLAIN, "aba"], False), ((PLAIN, ("a", "b", "a")), False), (("aba", PLAIN), False), ((TABBY, "aba"), False),
                             ((PLAIN, "aba", ""), False), ((str(PLAIN), "aba"), False), ((LOOSE, "aba"), False)):
            self.assertIs(is_draft_of(cloth=TABBY, thing=thing), right)
            self.assertIs(is_right_draft(TABBY, thing), right)
        for value in [*all_changed((loom, word)), *changed_values(924, (loom, word), 80)]:
            self.assertIs(is_draft_of(TABBY, value), is_right_draft(TABBY, value), value)

    def test_unlike_papers(self):
        rng = random.Random(925)
        for _ in range(30):
            cloth = random_cloth(rng, 4, 4)
            for ends in range(5):
                for row in itertools.combinations(range(cloth.ends), ends):
                    for picks in range(5):
                        for other in itertools.combinations(range(len(cloth)), picks):
                            thing = ("unlike", row, other)
                            self.assertIs(unlike_holds(cloth=cloth, thing=thing), is_right_unlike(cloth, thing))
        for thing in (("unlike", (0, 1), (0,)), ("unlike", (0,), (0, 1)), ("unlike", (1, 0), (0, 1)), ("unlike", (0, 2), (0, 1)),
                      ("unlike", (0, 1), (0, 2)), ("unlike", (0, 1, 2), (0, 1)), ("unlike", [0, 1], (0, 1)), ("unlike", (0, True), (0, 1)),
                      ("unlike", (0, 1), (0, True)), ("unlike", (0, 4), (0, 1)), ("unlike", (-1, 0), (0, 1)), ("unlike", (0, 1)), ("alike", (0, 1), (0, 1))):
            self.assertIs(unlike_holds(TABBY, thing), False)
        self.assertIs(unlike_holds(TABBY, ("unlike", (1, 2), (1, 2))), True)
        self.assertIs(unlike_holds(TABBY, ("unlike", (0, 3), (0, 1))), True)

    def test_any_papers(self):
        for cloth in (TABBY, Cloth(("x",)), Cloth(("xx-", "x--"))):
            for value in some_values(926, 200):
                self.assertIs(unlike_holds(cloth, value), is_right_unlike(cloth, value), value)
            for value in [*all_changed(unlike_paper(cloth=cloth)), *changed_values(927, unlike_paper(cloth), 80)]:
                self.assertIs(unlike_holds(cloth, value), is_right_unlike(cloth, value), value)

    def test_first_crossings(self):
        rng = random.Random(928)
        same = 0
        for _ in range(400):
            drafts = []
            for _ in range(2):
                loom = random_loom(rng, 2, 3, 2)
                drafts.append((loom, random_word(rng, loom.letters, 3) or "a"))
            if rng.random() < 0.2:
                drafts[1] = least_draft(woven(*drafts[0]))
            one, other = (laid(*draft) for draft in drafts)
            signs = [{(i, j): sign for i, pick in enumerate(picks) for j, sign in enumerate(pick)} for picks in (one, other)]
            apart = sorted(place for place in {*signs[0], *signs[1]} if signs[0].get(place) != signs[1].get(place))
            self.assertEqual(first_crossing(one=drafts[0], other=drafts[1]), apart[0] if apart else None)
            same += not apart
        self.assertGreater(same, 20)
        # Unlike sizes: a crossing that neither cloth has is none.
        wide = Loom(1, (0, 0, 0), ((0,),))
        high = Loom(1, (0,), ((0,),))
        self.assertEqual(first_crossing((wide, "a"), (high, "aaa")), (0, 1))
        self.assertEqual(first_crossing((high, "aaa"), (wide, "a")), (0, 1))
        self.assertEqual(first_crossing((high, "a"), (high, "aa")), (1, 0))
        self.assertEqual(first_crossing((wide, "aa"), (wide, "aa")), None)
        self.assertEqual(first_crossing((PLAIN, "ab" * 30), (PLAIN, "ab" * 29 + "aa")), (59, 0))


class ReducedTest(unittest.TestCase):

    def test_examples(self):
        self.assertEqual(reduced(Loom(4, (3, 1, 3, 0), ((1, 3), (0,), (1, 2, 3)))), (Loom(2, (0, 0, 0, 1), ((0,), (1,))), "aba"))

    def test_treadlings(self):
        rng = random.Random(929)
        for _ in range(200):
            loom = random_loom(rng, 4, 5, 4)
            small, led = reduced(loom)
            for _ in range(3):
                word = random_word(rng, loom.letters, 6)
                self.assertEqual(led_treadling(loom, word), "".join(led[loom.letters.index(letter)] for letter in word))
                self.assertEqual(laid(small, led_treadling(loom, word)), laid(loom, word))
            self.assertEqual(small.used, tuple(range(small.shafts)))
            self.assertEqual(small.threading, told_kinds(list(small.threading)))
            self.assertEqual(len(set(laid(small, small.letters))), len(small.letters))
            self.assertEqual(len({tuple(s in lift for lift in small.lifts) for s in small.used}), small.shafts)
            self.assertEqual(led, "".join("abcd"[kind] for kind in told_kinds(list(laid(loom, loom.letters)))))
            self.assertEqual(reduced(small), (small, small.letters))
            self.assertIs(is_reduced(small), True)
            self.assertIs(is_reduced(loom), small == loom)

    def test_like_shafts_and_treadles(self):
        self.assertIs(is_reduced(loom=PLAIN), True)
        self.assertIs(is_reduced(DOUBLE), True)
        # A shaft without ends, like shafts, like treadles, and shafts that are numbered in another order.
        self.assertEqual(reduced(loom=SPARE), (Loom(2, (0, 0, 0, 1), ((0,), (1,), (), (0, 1))), "abcd"))
        for loom in (Loom(3, (0, 1), ((0,), (1,))), Loom(2, (0, 1), ((0, 1),)), Loom(2, (0, 1), ((0,), (0,), (1,))),
                     Loom(2, (1, 0), ((0,), (1,))), Loom(3, (0, 1), ((0,), (0, 2)))):
            self.assertIs(is_reduced(loom), False)
        self.assertEqual(reduced(Loom(3, (0, 1), ((0,), (0, 2))))[1], "aa")
        self.assertEqual(reduced(Loom(2, (0, 1), ((0, 1), ()))), (Loom(1, (0, 0), ((0,), ())), "ab"))

    def test_no_loom_with_fewer(self):
        # All looms with fewer used shafts or treadles, and all letters that can be put for letters.
        rng = random.Random(930)
        for _ in range(25):
            loom = random_loom(rng, 3, 3, 3)
            small, _ = reduced(loom)
            picks = laid(loom, loom.letters)
            for shafts in range(1, 3):
                for letters in range(1, 4):
                    if shafts >= small.shafts and letters >= len(small.letters):
                        continue
                    for other in all_looms(shafts, len(loom), letters):
                        if len(other.used) < small.shafts or letters < len(small.letters):
                            self.assertFalse(set(picks) <= set(laid(other, other.letters)))

    def test_wrong_treadlings(self):
        self.assertEqual(led_treadling(loom=PLAIN, treadling=""), "")
        for value in some_values(931, 100):
            if not (type(value) is str and set(value) <= {"a", "b"}):
                self.assertIs(raised(self, BadTreadling, led_treadling, PLAIN, value).thing, value)
        self.assertEqual(led_treadling(Loom(2, (0, 1), ((0,), (0,), (1,))), "abcab" * 12), "aabaa" * 12)

    def test_the_same_again(self):
        for call in (reduced, is_reduced):
            self.assertEqual(call(SPARE), call(Loom(SPARE.shafts, SPARE.threading, SPARE.lifts)))
        for call in (end_kinds, pick_kinds, least_draft, unlike_paper):
            self.assertEqual(call(TABBY), call(Cloth(TABBY.picks)))


if __name__ == "__main__":
    unittest.main()
