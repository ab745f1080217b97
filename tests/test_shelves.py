"""Charts of a loom, rolls of a chart, promises, and the same pictures: points 62 to 64."""

import random
import time
import unittest

from loomhold.charts import Chart
from loomhold.cloths import woven
from loomhold.errors import BadRoll
from loomhold.looms import Loom
from loomhold.scripts import chart_of
from loomhold.shelves import does_keep, does_take, first_broken, first_other, is_of_loom, is_promise
from tests.helpers import (
    LOOSE, PLAIN, SPARE, all_changed, changed_values, fits, fitting, is_true_int, lets, raised, random_chart, random_loom, some_values,
    useful_told)
from tests.test_floatpapers import is_right_within_paper
from tests.test_floats import told_greatest, told_weft
from tests.test_grips import stretches, told_grip
from tests.test_holding import ANY, NONE, ODD, does_fall
from tests.test_holdpapers import told_lasting
from tests.test_rolls import MOST, is_right_roll, nested, random_roll, written_out

EVEN = chart_of("ab(ab)*", "ab")


def is_right_promise(thing):
    if type(thing) is not tuple or len(thing) == 0 or type(thing[0]) is not str:
        return False
    if len(thing) == 1:
        return thing[0] == "holds"
    if len(thing) != 2 or not is_true_int(thing[1]) or thing[0] not in ("from", "grip", "floats"):
        return False
    return thing[1] >= (0 if thing[0] == "from" else 1)


def useful_letters(chart):
    useful = useful_told(chart)
    return sorted({letter for state, letter, target in chart.moves if state in useful and target in useful})


def told_kept(loom, chart, promise):
    """Tell whether a promise is kept, by slow ways of telling of each part."""
    if promise[0] == "floats":
        greatest = told_greatest(loom, chart)
        return greatest is not None and max([greatest, *[told_weft(loom, letter) for letter in useful_letters(chart)]]) <= promise[1]
    if promise[0] == "grip":
        number = told_grip(loom, chart)
    else:
        number = told_lasting(loom, chart)
    return number is not None and number <= (0 if promise[0] == "holds" else promise[1])


def is_right_broken_paper(loom, chart, promise, thing):
    """Tell whether a value shows that a promise is not kept, as point 63 words it."""
    if type(thing) is not tuple or len(thing) == 0 or type(thing[0]) is not str:
        return False
    if promise[0] in ("holds", "from"):
        if thing[0] != "falls" or len(thing) != 2 or type(thing[1]) is not str or not lets(chart, thing[1]):
            return False
        return does_fall(loom, thing[1]) and len(thing[1]) >= (0 if promise[0] == "holds" else promise[1])
    if promise[0] == "grip":
        if thing[0] != "slips" or len(thing) != 2 or type(thing[1]) is not str or len(thing[1]) != promise[1]:
            return False
        return thing[1] in stretches(chart, promise[1]) and does_fall(loom, thing[1])
    if thing[0] == "weft":
        return len(thing) == 2 and type(thing[1]) is str and thing[1] in useful_letters(chart) and told_weft(loom, thing[1]) > promise[1]
    return thing[0] == "beyond" and is_right_within_paper(loom, chart, promise[1], thing)


def all_promises(most):
    row = [("holds",)]
    for number in range(most + 1):
        row.append(("from", number))
        if number > 0:
            row.extend([("grip", number), ("floats", number)])
    return row


class ChartsTest(unittest.TestCase):

    def test_of_a_loom(self):
        rng = random.Random(960)
        for _ in range(200):
            loom, chart = random_loom(rng), random_chart(rng)
            self.assertIs(is_of_loom(loom, chart), fits(loom, chart))
        self.assertIs(is_of_loom(loom=PLAIN, chart=Chart("abz", 1, ((0, "a", 0),), (0,))), True)
        self.assertIs(is_of_loom(PLAIN, ODD), False)

    def test_rolls_written_out(self):
        rng = random.Random(961)
        taken = 0
        for _ in range(500):
            chart = random_chart(rng, 4, "ab")
            roll = random_roll(rng)
            word = written_out(roll)
            self.assertIs(does_take(loom=PLAIN, chart=chart, roll=roll), lets(chart, word))
            taken += lets(chart, word)
        self.assertGreater(taken, 50)

    def test_long_rolls(self):
        for roll, chart, right in (
                (("ab", (MOST, ("ab",))), EVEN, True), (((MOST, ("a",)),), chart_of("(aa)*", "a"), True),
                (((MOST - 1, ("a",)),), chart_of("(aa)*", "a"), False), (((MOST - 1, ("a",)),), chart_of("a(aa)*", "a"), True),
                (((MOST, ("aab",)),), EVEN, False), (((MOST, ()), "ab"), EVEN, True), (((0, ("ba",)), "ab"), EVEN, True),
                ((), EVEN, False), ((), ANY, True), (nested(12, ("ab",)), EVEN, True), (nested(12, ("b",)), EVEN, False),
                (((MOST, ((MOST, ((MOST, ("aaa",)),)),)),), chart_of("(aaaaa)*", "a"), True),
                (((MOST, ((7, ((7, ("aaa",)),)),)), "a"), chart_of("a(aaaaa)*", "a"), True),
                (((3, ((7, ((7, ("a",)),)),)),), chart_of("aa(aaaaa)*", "a"), True)):
            loom = PLAIN
            self.assertIs(does_take(loom, chart, roll), right, roll)
        # Letters that no move has, in a pair of times 0, or not.
        self.assertIs(does_take(LOOSE, EVEN, ("ab", (0, ("c",)))), True)
        self.assertIs(does_take(LOOSE, EVEN, ("ab", (1, ("c",)))), False)
        self.assertIs(does_take(PLAIN, NONE, ()), False)

    def test_powers(self):
        rng = random.Random(962)
        for _ in range(60):
            chart = random_chart(rng, 6, "ab", 0.95)
            word = "".join(rng.choice("ab") for _ in range(rng.randrange(1, 4)))
            # From each state on the word comes round: so many of it lead as a lesser number does.
            far = rng.choice([MOST, MOST - 7, 123456789])
            near = 60 + (far - 60) % 60
            self.assertIs(does_take(PLAIN, chart, ((far, (word,)),)), lets(chart, word * near))

    def test_wrong_rolls(self):
        for value in some_values(963, 150):
            if not is_right_roll("ab", value):
                self.assertIs(raised(self, BadRoll, does_take, PLAIN, EVEN, value).thing, value)
        for roll in (("abc",), ("",), ((MOST + 1, ("a",)),), ((0, ("c",)),), nested(13, ("a",)), ["ab"], "ab", (("a",),), ((True, ("a",)),)):
            self.assertIs(raised(self, BadRoll, does_take, PLAIN, EVEN, roll).thing, roll)


class PromisesTest(unittest.TestCase):

    def test_any_promises(self):
        for value in some_values(964, 200):
            self.assertIs(is_promise(value), is_right_promise(value), value)
        for promise in all_promises(12):
            self.assertIs(is_promise(thing=promise), True)
            for value in [*all_changed(promise), *changed_values(965, promise, 20)]:
                self.assertIs(is_promise(value), is_right_promise(value), value)
        for thing in (("from", -1), ("grip", 0), ("floats", 0), ("holds", 0), ("from",), ("grip", True), ["holds"], ("weft", 1), "holds", ()):
            self.assertIs(is_promise(thing), False)
        self.assertIs(is_promise(("floats", 10 ** 39)), True)

    def test_one_by_one(self):
        rng = random.Random(966)
        seen = {}
        for _ in range(120):
            loom, chart = fitting(rng, 3, 2)
            for promise in all_promises(4):
                right = told_kept(loom, chart, promise)
                self.assertIs(does_keep(loom, chart, promise), right, (promise, str(loom), str(chart)))
                found = first_broken(loom, chart, (promise,))
                self.assertEqual(found is None, right)
                seen[(promise[0], right)] = seen.get((promise[0], right), 0) + 1
                if not right:
                    self.assertIs(found[0], promise)
                    self.assertTrue(is_right_broken_paper(loom, chart, promise, found[1]), found)
                    seen[found[1][0]] = seen.get(found[1][0], 0) + 1
        self.assertEqual(len(seen), 12)
        self.assertGreater(min(seen.values()), 2)

    def test_the_first_one(self):
        rng = random.Random(967)
        for _ in range(60):
            loom, chart = fitting(rng, 3, 2)
            promises = tuple(rng.choice(all_promises(3)) for _ in range(rng.randrange(5)))
            broken = [promise for promise in promises if not told_kept(loom, chart, promise)]
            found = first_broken(loom=loom, chart=chart, promises=promises)
            self.assertEqual(found and found[0], broken[0] if broken else None)
        self.assertIsNone(first_broken(PLAIN, ANY, ()))
        self.assertIsNone(first_broken(PLAIN, EVEN, (("holds",), ("grip", 2), ("from", 0), ("floats", 1), ("holds",))))
        self.assertEqual(first_broken(PLAIN, EVEN, (("holds",), ("grip", 1)))[1][0], "slips")

    def test_without_treadlings(self):
        for promise in all_promises(3):
            self.assertIs(does_keep(loom=PLAIN, chart=NONE, promise=promise), True)

    def test_great_numbers(self):
        chart = chart_of("ab(ab)*[|a]", "ab")
        for number in range(13):
            self.assertIs(does_keep(PLAIN, ANY, ("from", number)), False)
            paper = first_broken(PLAIN, ANY, (("from", number),))[1]
            self.assertTrue(is_right_broken_paper(PLAIN, ANY, ("from", number), paper))
            self.assertIs(does_keep(PLAIN, chart, ("from", number)), True)
            if number > 0:
                paper = first_broken(PLAIN, ANY, (("grip", number),))[1]
                self.assertEqual((paper[0], len(paper[1])), ("slips", number))
                self.assertTrue(is_right_broken_paper(PLAIN, ANY, ("floats", number), first_broken(PLAIN, ANY, (("floats", number),))[1]))
        # The longest treadlings that fall have ten letters.
        tens = chart_of("aaaaaaaaaa[|b]", "ab")
        self.assertEqual([does_keep(PLAIN, tens, ("from", number)) for number in (10, 11)], [False, True])
        self.assertEqual(first_broken(PLAIN, tens, (("from", 10),)), (("from", 10), ("falls", "a" * 10)))

    def test_weft_floats(self):
        wide = Loom(2, (0, 0, 1, 0, 0, 0), ((0,), ()))
        chart = chart_of("a", "ab")
        self.assertIs(does_keep(wide, chart, ("floats", 3)), True)
        self.assertEqual(first_broken(wide, chart, (("floats", 2),)), (("floats", 2), ("weft", "a")))
        # The letter b, with a weft float of six, stands in no useful move.
        self.assertIs(does_keep(wide, Chart("ab", 2, ((0, "a", 0), (0, "b", 1)), (0,)), ("floats", 3)), False)
        self.assertIs(does_keep(wide, Chart("ab", 3, ((0, "a", 1), (0, "b", 2)), (1,)), ("floats", 3)), True)


def told_other(loom, other, rolls):
    for place, roll in enumerate(rolls):
        word = written_out(roll)
        if word == "":
            continue
        if not set(word) <= set(other.letters) or woven(loom, word) != woven(other, word):
            return place
    return None


class PicturesTest(unittest.TestCase):

    def test_rolls_written_out(self):
        rng = random.Random(968)
        seen = {}
        for _ in range(300):
            loom = random_loom(rng, 3, 3, 3)
            other = loom
            for _ in range(rng.randrange(3)):
                letter = rng.choice(loom.letters)
                other = other.with_lift(letter, tuple(s for s in range(loom.shafts) if rng.random() < 0.5))
            if rng.random() < 0.3:
                other = Loom(4, tuple(rng.randrange(4) for _ in range(rng.choice([len(loom), 2]))), other.lifts[:rng.randrange(1, 4)])
            rolls = tuple(random_roll(rng, loom.letters, 2, 3) for _ in range(rng.randrange(5)))
            told = told_other(loom, other, rolls)
            self.assertEqual(first_other(loom=loom, other=other, rolls=rolls), told)
            seen[told] = seen.get(told, 0) + 1
        self.assertGreater(seen[None], 30)
        self.assertGreater(seen[1], 10)

    def test_other_looms(self):
        same = Loom(4, (0, 1, 2, 3), ((0, 2), (1, 3)))
        rolls = (("ab", (MOST, ("ab",))), ("b",), ())
        self.assertIsNone(first_other(PLAIN, same, rolls))
        self.assertEqual(first_other(PLAIN, same.with_lift("a", (0, 1)), rolls), 0)
        self.assertEqual(first_other(PLAIN, PLAIN.with_lift("a", ()), (("b",), ("a",))), 1)
        self.assertEqual(first_other(PLAIN, PLAIN.threaded((0, 1, 0)), (("b",), ("a",))), 0)
        self.assertIsNone(first_other(PLAIN, PLAIN.threaded((0, 1, 0)), ((), ((0, ("a",)),), ((5, ()),))))
        self.assertEqual(first_other(PLAIN, Loom(2, (0, 1, 0, 1), ((0,),)), (("a",), ("ab",))), 1)
        # Letters that are never woven need not be there.
        self.assertIsNone(first_other(LOOSE, Loom(2, (0, 1), ((0,), (1,))), (("ab", (0, ("c",))), ((MOST, ((0, ("c",)), "b")),))))
        self.assertEqual(first_other(LOOSE, Loom(2, (0, 1), ((0,), (1,))), (("ab",), ((MOST, ((1, ("c",)), "b")),))), 1)
        self.assertIsNone(first_other(SPARE, SPARE.with_lift("b", (0,)), (("abcd",),)))
        self.assertIsNone(first_other(PLAIN, PLAIN, ()))

    def test_at_the_limits(self):
        start = time.process_time()
        deep = nested(12, ("ab" * 30,))
        chart = Chart("abcd", 6, tuple((s, x, (s * 5 + k + 1) % 6) for s in range(6) for k, x in enumerate("abcd")), (0, 1, 2, 3, 4, 5))
        loom = Loom(4, (0, 1, 2, 3) * 3, ((0, 1), (1, 2), (2, 3), (0, 3)))
        roll = tuple((MOST, ("abcd" * 15, (MOST - 1, ("dcba",)))) for _ in range(10))
        for _ in range(20):
            self.assertIs(does_take(loom, chart, deep), True)
            self.assertIs(does_take(loom, chart, roll), True)
            self.assertIsNone(first_other(loom, loom, (deep, roll) * 10))
        self.assertLess(time.process_time() - start, 10)


if __name__ == "__main__":
    unittest.main()
