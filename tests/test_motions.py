"""Turns and motions: point 42."""

import itertools
import random
import unittest

from loomhold.cloths import Cloth, is_over, strands
from loomhold.motions import back_of, behind, is_motion, moved, strand_led
from loomhold.patterns import ground
from tests.helpers import all_changed, changed_values, is_true_int, random_cloth, some_values

TURNS = sorted("".join(letters) for many in range(5) for letters in itertools.combinations("epsw", many))
ODD = Cloth(("xx", "-x"))
CHECK = Cloth(("x-", "-x"))
OTHER = {"x": "-", "-": "x"}


def sign_in(cloth, i, j):
    """The sign of the pattern at two integers."""
    return cloth.picks[i % len(cloth)][j % cloth.ends]


def led_sign(cloth, motion, i, j):
    """The sign at two integers of the pattern that a motion leads to, as point 42 words it, from its last step on."""
    turn, down, across = motion

    def moved_at(i, j):
        return exchanged_at(i - down, j - across)

    def exchanged_at(i, j):
        return OTHER[mirrored_at(i, j)] if "s" in turn else mirrored_at(i, j)

    def mirrored_at(i, j):
        if "p" in turn:
            i = -i
        if "e" in turn:
            j = -j
        return turned_at(i, j)

    def turned_at(i, j):
        return OTHER[sign_in(cloth, j, i)] if "w" in turn else sign_in(cloth, i, j)

    return moved_at(i, j)


def led_strand(motion, strand):
    """The strand, numbered by all integers, to which a motion leads one."""
    turn, down, across = motion
    sort, number = strand
    if "w" in turn:
        sort = {"end": "pick", "pick": "end"}[sort]
    if (sort, "e" in turn) == ("end", True) or (sort, "p" in turn) == ("pick", True):
        number = -number
    return (sort, number + (across if sort == "end" else down))


def random_motion(rng, most=20):
    return (rng.choice(TURNS), rng.randrange(-most, most + 1), rng.randrange(-most, most + 1))


def is_right_motion(thing):
    if type(thing) is not tuple or len(thing) != 3 or type(thing[0]) is not str or thing[0] not in TURNS:
        return False
    return is_true_int(thing[1]) and is_true_int(thing[2])


class MotionsTest(unittest.TestCase):

    def test_examples(self):
        self.assertEqual(moved(ODD, ("", 1, 0)).picks, ("-x", "xx"))
        self.assertEqual(moved(ODD, ("s", 0, 0)).picks, ("--", "x-"))
        self.assertEqual(moved(ODD, ("w", 0, 0)).picks, ("-x", "--"))
        self.assertEqual(strand_led(ODD, ("sw", 1, 1), ("end", 0)), ("pick", 1))
        self.assertEqual(behind(("w", 0, 1), ("e", 2, 0)), ("ew", 2, -1))
        self.assertEqual(back_of(("ew", 2, -1)), ("pw", -1, -2))

    def test_moved_sign_by_sign(self):
        rng = random.Random(800)
        for turn in TURNS:
            for _ in range(40):
                cloth = random_cloth(rng)
                motion = (turn, rng.randrange(-20, 21), rng.randrange(-20, 21))
                found = moved(cloth, motion)
                size = (len(cloth), cloth.ends)
                self.assertEqual((len(found), found.ends), size[::-1] if "w" in turn else size)
                told = tuple("".join(led_sign(cloth, motion, i, j) for j in range(found.ends)) for i in range(len(found)))
                self.assertEqual(found.picks, told)

    def test_unlike_numbers_of_picks_and_ends(self):
        cloth = Cloth(("xx-", "x--"))
        self.assertEqual(moved(cloth, ("w", 0, 0)).picks, ("--", "-x", "xx"))
        self.assertEqual(moved(cloth, ("w", 1, 0)).picks, ("xx", "--", "-x"))
        self.assertEqual(moved(cloth, ("sw", 0, 1)).picks, ("xx", "-x", "--"))
        self.assertEqual(moved(cloth, ("e", 0, 0)).picks, ("x-x", "x--"))
        self.assertEqual(moved(cloth, ("p", 0, -1)).picks, ("x-x", "--x"))
        self.assertEqual(moved(Cloth(("x-",)), ("w", -7, 5)).picks, ("x", "-"))
        self.assertEqual(moved(Cloth(("x",)), ("w", 3, 4)), Cloth(("-",)))

    def test_the_other_side(self):
        # A cloth that is laid on its other side shows its signs exchanged, and mirrored one way.
        cloth = Cloth(("xx-", "x--"))
        self.assertEqual(moved(cloth, ("es", 0, 0)).picks, ("-x-", "-xx"))
        self.assertEqual(moved(cloth, ("ps", 0, 0)).picks, ("--x", "-xx"))

    def test_one_behind_the_other(self):
        rng = random.Random(801)
        for one_turn, other_turn in itertools.product(TURNS, TURNS):
            one = (one_turn, rng.randrange(-20, 21), rng.randrange(-20, 21))
            other = (other_turn, rng.randrange(-20, 21), rng.randrange(-20, 21))
            both = behind(one, other)
            self.assertTrue(is_right_motion(both))
            for _ in range(2):
                cloth = random_cloth(rng)
                self.assertEqual(moved(moved(cloth, one), other), moved(cloth, both))
            for strand in (("end", 0), ("end", 5), ("end", -3), ("pick", 0), ("pick", 7), ("pick", -2)):
                self.assertEqual(led_strand(other, led_strand(one, strand)), led_strand(both, strand))

    def test_back(self):
        rng = random.Random(802)
        for turn in TURNS:
            for _ in range(10):
                motion = (turn, rng.randrange(-20, 21), rng.randrange(-20, 21))
                back = back_of(motion)
                self.assertTrue(is_right_motion(back))
                self.assertEqual(behind(motion, back), ("", 0, 0))
                self.assertEqual(behind(back, motion), ("", 0, 0))
                self.assertEqual(back_of(back), motion)
                cloth = random_cloth(rng)
                self.assertEqual(moved(moved(cloth, motion), back), cloth)
        self.assertEqual(back_of(("", 3, -4)), ("", -3, 4))
        self.assertEqual(behind(one=("s", 1, 2), other=("s", 3, 4)), ("", 4, 6))
        self.assertEqual(behind(("", 10 ** 39, 0), ("", 1, 0)), ("", 10 ** 39 + 1, 0))

    def test_three_behind_one_another(self):
        rng = random.Random(803)
        for _ in range(200):
            one, other, third = (random_motion(rng) for _ in range(3))
            self.assertEqual(behind(behind(one, other), third), behind(one, behind(other, third)))

    def test_strands_led(self):
        rng = random.Random(804)
        for turn in TURNS:
            for _ in range(12):
                cloth = random_cloth(rng)
                motion = (turn, rng.randrange(-20, 21), rng.randrange(-20, 21))
                own = ground(cloth)
                goal = ground(moved(cloth, motion))
                led = {}
                for strand in strands(own):
                    sort, number = led_strand(motion, strand)
                    led[strand] = strand_led(cloth, motion, strand)
                    self.assertEqual(led[strand], (sort, number % (goal.ends if sort == "end" else len(goal))))
                self.assertEqual(sorted(led.values()), list(strands(goal)))
                for one in strands(own):
                    for other in strands(own):
                        if one[0] != other[0]:
                            below = is_over(goal, led[one], led[other])
                            self.assertEqual(is_over(own, one, other), below != ("s" in turn))
        self.assertEqual(strand_led(cloth=ODD, motion=("w", 1, 0), strand=("end", 0)), ("pick", 1))

    def test_strands_of_the_ground(self):
        # The ground has one pick and two ends: what is led is told below its periods.
        cloth = Cloth(("x-x-", "x-x-"))
        self.assertEqual(strand_led(cloth, ("", 1, 3), ("end", 1)), ("end", 0))
        self.assertEqual(strand_led(cloth, ("", 5, 0), ("pick", 0)), ("pick", 0))
        self.assertEqual(strand_led(cloth, ("w", 1, 0), ("end", 0)), ("pick", 1))
        self.assertEqual(strand_led(cloth, ("w", 1, 9), ("pick", 0)), ("end", 0))

    def test_any_values(self):
        for value in some_values(805, 300):
            self.assertIs(is_motion(value), is_right_motion(value), value)
        for motion in (("", 0, 0), ("epsw", -20, 20), ("ew", 10 ** 39, -10 ** 39)):
            self.assertIs(is_motion(thing=motion), True)
            for value in [*all_changed(motion), *changed_values(806, motion, 100)]:
                self.assertIs(is_motion(value), is_right_motion(value), value)
        for thing in (("we", 0, 0), ("ee", 0, 0), ("x", 0, 0), ("", True, 0), ("", 0, False), ["", 0, 0], ("", 0), ("", 0, 0, 0), "epsw"):
            self.assertIs(is_motion(thing), False)

    def test_the_same_again(self):
        cloth = Cloth(("xx-", "x--"))
        motion = ("ew", 3, -5)
        first = (moved(cloth=cloth, motion=motion), back_of(motion=motion), behind(motion, motion))
        self.assertEqual((moved(cloth, motion), back_of(motion), behind(motion, motion)), first)
        self.assertEqual(cloth.picks, ("xx-", "x--"))
        self.assertIsInstance(first[0], Cloth)


if __name__ == "__main__":
    unittest.main()
