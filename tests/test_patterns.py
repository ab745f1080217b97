"""Patterns: points 41, 43 and 44, and the keepers of point 42."""

import random
import unittest

from loomhold.cloths import Cloth, strands
from loomhold.motions import behind, moved, strand_led
from loomhold.patterns import (
    are_all_alike, do_show_one, first_form, ground, judge_same, judge_strands, keepers, keeps, motion_to, same_holds, strand_classes,
    strands_hold)
from tests.helpers import all_changed, changed_values, random_cloth, some_values
from tests.test_motions import CHECK, ODD, TURNS, is_right_motion, led_sign, led_strand, random_motion, sign_in

TWILL = Cloth(("xx--", "-xx-", "--xx", "x--x"))
SATIN = Cloth(tuple("".join("x" if j == 2 * i % 5 else "-" for j in range(5)) for i in range(5)))
SMALL = [Cloth(("x",)), Cloth(("-",)), Cloth(("x-",)), Cloth(("x", "-", "-")), CHECK, ODD, Cloth(("xx", "xx")), Cloth(("x-x-", "x-x-")),
         Cloth(("x-", "-x", "x-", "-x")), Cloth(("xx-", "x--")), Cloth(("xx-", "-xx", "x-x")), Cloth(("x--", "-x-", "--x")), TWILL]


def periods(cloth):
    """The periods, told over twice as many signs as the cloth has."""
    high, wide = len(cloth), cloth.ends
    down = min(p for p in range(1, high + 1) if all(
        sign_in(cloth, i + p, j) == sign_in(cloth, i, j) for i in range(2 * high) for j in range(wide)))
    across = min(q for q in range(1, wide + 1) if all(
        sign_in(cloth, i, j + q) == sign_in(cloth, i, j) for i in range(high) for j in range(2 * wide)))
    return down, across


def window(cloth, high, wide):
    return tuple("".join(sign_in(cloth, i, j) for j in range(wide)) for i in range(high))


def led_window(cloth, motion, high, wide):
    return tuple("".join(led_sign(cloth, motion, i, j) for j in range(wide)) for i in range(high))


def does_lead(cloth, motion, other):
    """Tell whether a motion leads one pattern to another one, over a square on which both come round."""
    size = len(cloth) * cloth.ends * len(other) * other.ends
    size = min(n for n in range(1, size + 1) if all(n % m == 0 for m in (len(cloth), cloth.ends, len(other), other.ends)))
    return led_window(cloth, motion, size, size) == window(other, size, size)


def motions_below(down, across):
    return [(turn, i, j) for turn in TURNS for i in range(down) for j in range(across)]


def told_keepers(cloth):
    return tuple(motion for motion in motions_below(*periods(cloth)) if does_lead(cloth, motion, cloth))


def told_form(cloth):
    """The first form, from all grounds of patterns that are alike."""
    down, across = periods(cloth)
    forms = []
    for motion in motions_below(max(down, across), max(down, across)):
        high, wide = (across, down) if "w" in motion[0] else (down, across)
        forms.append((high, led_window(cloth, motion, high, wide)))
    return min(forms)[1]


def told_classes(cloth):
    down, across = periods(cloth)
    row = [("end", k) for k in range(across)] + [("pick", k) for k in range(down)]
    classes = {}
    motions = told_keepers(cloth)
    for strand in row:
        led = set()
        for motion in motions:
            sort, number = led_strand(motion, strand)
            led.add((sort, number % (across if sort == "end" else down)))
        classes[tuple(sorted(led))] = True
    return tuple(sorted(classes))


def is_right_same_paper(cloth, other, thing):
    if type(thing) is not tuple or len(thing) == 0 or type(thing[0]) is not str:
        return False
    if thing[0] == "same":
        return len(thing) == 2 and is_right_motion(thing[1]) and does_lead(cloth, thing[1], other)
    if thing[0] != "unlike" or len(thing) != 3:
        return False
    for row in thing[1:]:
        if type(row) is not tuple or not all(type(pick) is str for pick in row):
            return False
    return thing[1:] == (told_form(cloth), told_form(other)) and thing[1] != thing[2]


def is_right_strands_paper(cloth, thing):
    if type(thing) is not tuple or len(thing) == 0 or type(thing[0]) is not str:
        return False
    down, across = periods(cloth)
    row = [("end", k) for k in range(across)] + [("pick", k) for k in range(down)]
    if thing[0] == "alike":
        if len(thing) != 2 or type(thing[1]) is not tuple or len(thing[1]) != len(row):
            return False
        for motion, strand in zip(thing[1], row):
            if not is_right_motion(motion) or motion not in told_keepers(cloth):
                return False
            sort, number = led_strand(motion, ("end", 0))
            if (sort, number % (across if sort == "end" else down)) != strand:
                return False
        return True
    if thing[0] != "unlike" or len(thing) != 3:
        return False
    for strand in thing[1:]:
        if type(strand) is not tuple or len(strand) != 2 or type(strand[0]) is not str or type(strand[1]) is not int or strand not in row:
            return False
    return not any(thing[1] in part and thing[2] in part for part in told_classes(cloth))


class GroundTest(unittest.TestCase):

    def test_periods_less_than_the_cloth(self):
        self.assertEqual(ground(Cloth(("x-x-", "x-x-"))), Cloth(("x-",)))
        self.assertEqual(ground(Cloth(("xx", "xx"))), Cloth(("x",)))
        self.assertEqual(ground(Cloth(("x-x", "x-x"))), Cloth(("x-x",)))
        self.assertEqual(ground(Cloth(("x-", "-x", "x-", "-x"))), CHECK)
        self.assertEqual(ground(Cloth(("x-", "-x", "x-"))), Cloth(("x-", "-x", "x-")))
        self.assertEqual(ground(cloth=ODD), ODD)
        self.assertEqual(ground(Cloth(("-",))), Cloth(("-",)))

    def test_beside_the_pattern(self):
        rng = random.Random(810)
        for _ in range(150):
            cloth = random_cloth(rng, 6, 6)
            if rng.random() < 0.5:
                cloth = Cloth(window(cloth, len(cloth) * rng.choice([1, 2, 3]), cloth.ends * rng.choice([1, 2])))
            own = ground(cloth)
            self.assertEqual((len(own), own.ends), periods(cloth))
            self.assertEqual(window(own, len(cloth), cloth.ends), cloth.picks)
            self.assertEqual(ground(own), own)
            self.assertIs(do_show_one(cloth, own), True)

    def test_one_pattern(self):
        self.assertIs(do_show_one(cloth=CHECK, other=Cloth(("x-x-", "-x-x"))), True)
        self.assertIs(do_show_one(CHECK, Cloth(("-x", "x-"))), False)
        self.assertIs(do_show_one(Cloth(("xx",)), Cloth(("x", "x", "x"))), True)
        rng = random.Random(811)
        for _ in range(200):
            one, other = random_cloth(rng, 3, 3), random_cloth(rng, 3, 3)
            self.assertIs(do_show_one(one, other), window(one, 36, 36) == window(other, 36, 36))


class KeepersTest(unittest.TestCase):

    def test_examples(self):
        self.assertEqual(len(keepers(CHECK)), 32)
        for turn in TURNS:
            self.assertEqual(len([motion for motion in keepers(CHECK) if motion[0] == turn]), 2)
        self.assertEqual(keepers(ODD), (("", 0, 0), ("e", 0, 0), ("ep", 0, 0), ("epsw", 1, 1), ("esw", 1, 1), ("p", 0, 0), ("psw", 1, 1),
                                        ("sw", 1, 1)))
        self.assertEqual(first_form(ODD).picks, ("--", "-x"))
        self.assertEqual(motion_to(ODD, Cloth(("--", "x-"))), ("eps", 0, 0))

    def test_all_motions(self):
        rng = random.Random(812)
        for cloth in [*SMALL, *[random_cloth(rng, 4, 4) for _ in range(25)]]:
            self.assertEqual(keepers(cloth), told_keepers(cloth))
            self.assertEqual(keepers(cloth), keepers(ground(cloth)))
            for motion in keepers(cloth):
                self.assertIs(keeps(cloth, motion), True)
        self.assertEqual(keepers(Cloth(("x",))), tuple((turn, 0, 0) for turn in TURNS if ("s" in turn) == ("w" in turn)))

    def test_keeps_any_motion(self):
        rng = random.Random(813)
        kept = 0
        for cloth in SMALL:
            for _ in range(40):
                motion = random_motion(rng)
                told = does_lead(cloth, motion, cloth)
                self.assertIs(keeps(cloth, motion), told)
                kept += told
        self.assertGreater(kept, 30)
        self.assertIs(keeps(cloth=CHECK, motion=("", -19, 17)), True)
        self.assertIs(keeps(CHECK, ("", -19, 18)), False)
        # With w the periods have to be alike.
        self.assertEqual([motion for motion in keepers(Cloth(("x-",))) if "w" in motion[0]], [])
        self.assertIs(keeps(Cloth(("x-",)), ("w", 0, 0)), False)
        self.assertIs(keeps(Cloth(("xx", "xx", "xx")), ("sw", 5, -6)), True)

    def test_they_are_closed(self):
        for cloth in SMALL:
            down, across = periods(cloth)
            row = keepers(cloth)
            for one in row:
                for other in row:
                    turn, i, j = behind(one, other)
                    self.assertIn((turn, i % down, j % across), row)


class SameTest(unittest.TestCase):

    def test_first_form(self):
        rng = random.Random(814)
        for cloth in [*SMALL, *[random_cloth(rng, 3, 4) for _ in range(40)]]:
            self.assertEqual(first_form(cloth).picks, told_form(cloth))
            for _ in range(3):
                motion = random_motion(rng)
                self.assertEqual(first_form(moved(cloth, motion)), first_form(cloth))
        self.assertEqual(first_form(cloth=Cloth(("x", "-", "-"))), Cloth(("--x",)))
        self.assertEqual(first_form(Cloth(("x",))), Cloth(("-",)))

    def test_first_motion(self):
        rng = random.Random(815)
        for _ in range(60):
            cloth = random_cloth(rng, 3, 3)
            other = moved(cloth, random_motion(rng)) if rng.random() < 0.6 else random_cloth(rng, 3, 3)
            told = [motion for motion in motions_below(*periods(other)) if does_lead(cloth, motion, other)]
            self.assertEqual(motion_to(cloth, other), told[0] if told else None)
            self.assertEqual(motion_to(cloth, other) is None, first_form(cloth) != first_form(other))
            paper = judge_same(cloth, other)
            self.assertTrue(is_right_same_paper(cloth, other, paper))
            self.assertIs(same_holds(cloth, other, paper), True)
            self.assertEqual(paper[0], "same" if told else "unlike")

    def test_unlike_sizes(self):
        self.assertEqual(motion_to(Cloth(("x-",)), Cloth(("-", "x"))), ("epsw", 1, 0))
        self.assertEqual(motion_to(cloth=Cloth(("x-x-",)), other=Cloth(("-", "x", "-", "x"))), ("epsw", 1, 0))
        self.assertIsNone(motion_to(Cloth(("x-",)), Cloth(("x",))))
        self.assertEqual(judge_same(Cloth(("x-",)), Cloth(("x",))), ("unlike", ("-x",), ("-",)))
        self.assertEqual(judge_same(cloth=Cloth(("xx", "xx")), other=Cloth(("-",))), ("same", ("eps", 0, 0)))

    def test_papers_of_others(self):
        rng = random.Random(816)
        for cloth in SMALL:
            for _ in range(20):
                motion = random_motion(rng)
                other = moved(cloth, motion)
                self.assertIs(same_holds(cloth, other, ("same", motion)), True)
                self.assertIs(same_holds(cloth, other, ("same", (motion[0], motion[1] + 10 ** 36, motion[2]))),
                              10 ** 36 % periods(other)[0] == 0)
                self.assertIs(same_holds(cloth, other, ("unlike", first_form(cloth).picks, first_form(other).picks)), False)
        self.assertIs(same_holds(ODD, CHECK, ("unlike", ("--", "-x"), ("-x", "x-"))), True)
        for thing in (("unlike", ("--", "x-"), ("-x", "x-")), ("unlike", ("-x", "x-"), ("--", "-x")), ("unlike", ["--", "-x"], ("-x", "x-")),
                      ("unlike", ("--", "-x"), ("-x", "x-"), ()), ("unlike", ("--", "-x")), ["unlike", ("--", "-x"), ("-x", "x-")],
                      ("same", ("", 0, 0)), ("same", None), "unlike", None):
            self.assertIs(same_holds(ODD, CHECK, thing), False)
        self.assertIs(same_holds(CHECK, CHECK, ("same", ("", True, True))), False)
        self.assertIs(same_holds(CHECK, CHECK, ("same", ("", 1, 1))), True)
        self.assertIs(same_holds(CHECK, CHECK, ("same", ["", 1, 1])), False)

    def test_any_and_changed_papers(self):
        rng = random.Random(817)
        pairs = [(ODD, CHECK), (CHECK, CHECK), (ODD, Cloth(("--", "x-"))), (Cloth(("x-",)), Cloth(("x", "-", "-"))), (Cloth(("x",)), Cloth(("-",)))]
        for cloth, other in pairs:
            for value in some_values(818, 150):
                self.assertIs(same_holds(cloth, other, value), is_right_same_paper(cloth, other, value), value)
        pairs.extend([(random_cloth(rng, 3, 3), random_cloth(rng, 3, 3)) for _ in range(6)])
        for seed, (cloth, other) in enumerate(pairs):
            paper = judge_same(cloth, other)
            for value in [*all_changed(paper), *changed_values(seed, paper, 40)]:
                self.assertIs(same_holds(cloth, other, thing=value), is_right_same_paper(cloth, other, value), value)


class StrandsTest(unittest.TestCase):

    def test_examples(self):
        self.assertEqual(strand_classes(CHECK), ((("end", 0), ("end", 1), ("pick", 0), ("pick", 1)),))
        self.assertIs(strands_hold(CHECK, ("alike", (("", 0, 0), ("", 1, 1), ("sw", 0, 0), ("sw", 1, 1)))), True)
        self.assertEqual(strand_classes(ODD), ((("end", 0), ("pick", 1)), (("end", 1), ("pick", 0))))
        self.assertIs(are_all_alike(CHECK), True)
        self.assertIs(are_all_alike(ODD), False)

    def test_classes(self):
        rng = random.Random(820)
        alike = 0
        for cloth in [*SMALL, SATIN, *[random_cloth(rng, 4, 4) for _ in range(25)]]:
            self.assertEqual(strand_classes(cloth), told_classes(cloth))
            self.assertIs(are_all_alike(cloth), len(told_classes(cloth)) == 1)
            paper = judge_strands(cloth)
            self.assertTrue(is_right_strands_paper(cloth, paper))
            self.assertIs(strands_hold(cloth, paper), True)
            self.assertEqual(paper[0], "alike" if are_all_alike(cloth) else "unlike")
            alike += are_all_alike(cloth)
        self.assertGreater(alike, 5)
        self.assertIs(are_all_alike(cloth=TWILL), True)
        self.assertIs(are_all_alike(SATIN), True)

    def test_strands_of_the_ground_alone(self):
        cloth = Cloth(("x-x-", "-x-x"))
        self.assertEqual(strand_classes(cloth=cloth), strand_classes(CHECK))
        self.assertEqual(judge_strands(cloth=cloth), judge_strands(CHECK))
        self.assertEqual(strand_classes(Cloth(("xx", "xx"))), ((("end", 0), ("pick", 0)),))
        self.assertEqual(strand_classes(Cloth(("x-", "x-"))), ((("end", 0), ("end", 1)), (("pick", 0),)))
        self.assertIs(strands_hold(Cloth(("x-x-",)), ("unlike", ("end", 0), ("end", 2))), False)
        self.assertIs(strands_hold(Cloth(("x-x-",)), ("unlike", ("pick", 0), ("end", 1))), True)

    def test_papers_of_others(self):
        for cloth in (CHECK, TWILL, SATIN):
            paper = judge_strands(cloth)
            for at, strand in enumerate(strands(ground(cloth))):
                ways = [motion for motion in keepers(cloth) if strand_led(cloth, motion, ("end", 0)) == strand]
                self.assertGreater(len(ways), 0)
                for motion in keepers(cloth):
                    thing = ("alike", (*paper[1][:at], motion, *paper[1][at + 1:]))
                    self.assertIs(strands_hold(cloth, thing), motion in ways)
            down, across = periods(cloth)
            for add in ((0, across), (down, 0), (-down, 0)):
                turn, i, j = paper[1][0]
                self.assertIs(strands_hold(cloth, ("alike", ((turn, i + add[0], j + add[1]), *paper[1][1:]))), False)
        for one, other, told in ((("end", 0), ("end", 1), True), (("end", 1), ("end", 0), True), (("end", 0), ("pick", 1), False),
                                 (("pick", 1), ("pick", 0), True), (("end", 0), ("end", 0), False), (("end", 0), ("end", 2), False),
                                 (("end", 0), ("end", True), False), (["end", 0], ("end", 1), False), (("end", -1), ("end", 0), False)):
            self.assertIs(strands_hold(ODD, ("unlike", one, other)), told)

    def test_any_and_changed_papers(self):
        for cloth in (CHECK, ODD, Cloth(("x",)), Cloth(("x-",)), Cloth(("xx-", "x--"))):
            for value in some_values(821, 150):
                self.assertIs(strands_hold(cloth, value), is_right_strands_paper(cloth, value), value)
            paper = judge_strands(cloth)
            for value in [*all_changed(paper), *changed_values(822, paper, 60)]:
                self.assertIs(strands_hold(cloth, thing=value), is_right_strands_paper(cloth, value), value)


class SizesTest(unittest.TestCase):

    def test_eight_picks_and_ends(self):
        rng = random.Random(823)
        cloths = [Cloth(tuple("".join(rng.choice("x-") for _ in range(8)) for _ in range(8))) for _ in range(3)]
        cloths.append(Cloth(tuple("".join("x" if (i - j) % 8 < 4 else "-" for j in range(8)) for i in range(8))))
        cloths.append(Cloth(tuple("".join("x" if j == 3 * i % 8 else "-" for j in range(8)) for i in range(8))))
        for cloth in cloths:
            motion = (rng.choice(TURNS), rng.randrange(-20, 21), rng.randrange(-20, 21))
            other = moved(cloth, motion)
            self.assertEqual(first_form(cloth), first_form(other))
            self.assertIs(same_holds(cloth, other, judge_same(cloth, other)), True)
            self.assertIs(strands_hold(cloth, judge_strands(cloth)), True)
            self.assertEqual(sum(len(row) for row in strand_classes(cloth)), 16)
            self.assertTrue(all(keeps(cloth, motion) for motion in keepers(cloth)))
        self.assertEqual(len(cloths[4].picks), 8)
        self.assertIs(are_all_alike(cloths[3]), True)
        self.assertEqual(len(keepers(Cloth(("x-" * 4, "-x" * 4) * 4))), 32)

    def test_the_same_again(self):
        for call in (ground, first_form, keepers, strand_classes, judge_strands, are_all_alike):
            self.assertEqual(call(TWILL), call(Cloth(TWILL.picks)))
        self.assertEqual(judge_same(TWILL, SATIN), judge_same(TWILL, SATIN))


if __name__ == "__main__":
    unittest.main()
