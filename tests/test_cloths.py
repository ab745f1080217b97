"""Cloths and strands: points 5 and 6, texts of cloths (point 10), and what any values are answered."""

import random
import unittest

from loomhold.cloths import Cloth, does_lead, is_over, strands, turned_at, woven
from loomhold.errors import BadCloth, BadText, BadTreadling
from loomhold.looms import Loom
from tests.helpers import PLAIN, raised, random_cloth, random_loom, random_word, some_values


def bad_part(picks):
    """The part that BadCloth has to tell, None for a cloth."""
    if type(picks) is not tuple or picks == ():
        return "picks"
    for number, pick in enumerate(picks):
        if type(pick) is not str or pick == "" or set(pick) - set("x-") or len(pick) != len(picks[0]):
            return number
    return None


def led_from(cloth, strand):
    """The set of the strands to which one leads, step by step."""
    row = strands(cloth)
    found = {other for other in row if is_over(cloth, strand, other)}
    while True:
        more = {other for one in found for other in row if is_over(cloth, one, other)} - found
        if not more:
            return found
        found |= more


class ClothTest(unittest.TestCase):

    def test_attributes(self):
        cloth = Cloth(("x-x", "--x"))
        self.assertEqual((cloth.picks, cloth.ends, len(cloth)), (("x-x", "--x"), 3, 2))
        self.assertEqual(cloth, Cloth(picks=("x-x", "--x")))
        single = Cloth(("-",))
        self.assertEqual((single.ends, len(single)), (1, 1))

    def test_bad_parts(self):
        bad = [((), "picks"), ([], "picks"), (["x"], "picks"), ("x-", "picks"), (None, "picks"), (True, "picks"),
               (("",), 0), (("x", ""), 1), (("x", "xx"), 1), (("x-", "-x", "xX"), 2), ((0,), 0), (("x", ("x",)), 1),
               (("x-", "y-"), 1), (("x ",), 0), (("x\n",), 0), (("xx", "x", "y"), 1), ((["x"],), 0), (("x", None), 1)]
        for picks, part in bad:
            error = raised(self, BadCloth, Cloth, picks)
            self.assertEqual(error.part, part)
            self.assertIs(type(error.part), type(part))

    def test_any_values(self):
        values = some_values(11, 300)
        rng = random.Random(12)
        values += [tuple(rng.choice(["x-", "--", "x", rng.choice(values)]) for _ in range(3)) for _ in range(500)]
        for value in values:
            part = bad_part(value)
            if part is None:
                self.assertEqual(Cloth(value).picks, value)
            else:
                self.assertEqual(raised(self, BadCloth, Cloth, value).part, part)

    def test_equal(self):
        cloth = Cloth(("x-", "-x"))
        self.assertTrue(cloth == Cloth(("x-", "-x")))
        for other in (Cloth(("x-",)), Cloth(("-x", "x-")), ("x-", "-x"), "x-\n-x", PLAIN, None, 2):
            self.assertFalse(cloth == other)
            self.assertTrue(cloth != other)

    def test_texts(self):
        self.assertEqual(str(Cloth(("x-", "-x"))), "x-\n-x")
        self.assertEqual(Cloth.read("x-\n-x"), Cloth(("x-", "-x")))
        rng = random.Random(13)
        for _ in range(200):
            cloth = random_cloth(rng, 30, 30)
            self.assertEqual(Cloth.read(text=str(cloth)), cloth)
        great = Cloth(("x" * 3000, "-" * 3000))
        self.assertEqual(Cloth.read(str(great)), great)

    def test_bad_lines(self):
        bad = [("", 1), ("\n", 1), ("\nx", 1), ("x\n", 2), ("x-\n-x\n", 3), ("x-\n\n-x", 2), ("x\nxx", 2), ("xx\nx", 2),
               ("x \nxx", 1), ("x-\n-X", 2), ("x-\n-x\n--\ny-", 4), ("a", 1), ("x" * 3999 + "\n", 2)]
        for text, line in bad:
            self.assertEqual(raised(self, BadText, Cloth.read, text).line, line)
        for value in some_values(14, 200):
            if not isinstance(value, str):
                self.assertEqual(raised(self, BadText, Cloth.read, value).line, 0)


class WovenTest(unittest.TestCase):

    def test_examples(self):
        self.assertEqual(woven(PLAIN, "ab").picks, ("x-x-", "-x-x"))

    def test_lifts_and_shafts_without_ends(self):
        loom = Loom(4, (3, 1, 3, 0), ((1, 3), (), (2,), (0, 1, 2, 3)))
        self.assertEqual(woven(loom, "abcd").picks, ("xxx-", "----", "----", "xxxx"))
        self.assertEqual(woven(loom=loom, treadling="a").picks, ("xxx-",))

    def test_any_values(self):
        for value in some_values(15, 300):
            if isinstance(value, str) and value != "" and set(value) <= set("ab"):
                self.assertEqual(len(woven(PLAIN, value)), len(value))
            else:
                self.assertIs(raised(self, BadTreadling, woven, PLAIN, value).thing, value)

    def test_pick_by_pick(self):
        rng = random.Random(16)
        for _ in range(300):
            loom = random_loom(rng, 4, 12, 4)
            word = random_word(rng, loom.letters, 60) + "a"
            cloth = woven(loom, word)
            for place, letter in enumerate(word):
                for end, shaft in enumerate(loom.threading):
                    self.assertEqual(cloth.picks[place][end] == "x", shaft in loom.lifts["abcd".index(letter)])


class StrandsTest(unittest.TestCase):

    def test_strands(self):
        self.assertEqual(strands(Cloth(("x-", "-x", "xx"))),
                         (("end", 0), ("end", 1), ("pick", 0), ("pick", 1), ("pick", 2)))
        wide = Cloth(("x" * 12,) * 60)
        self.assertEqual(strands(cloth=wide), tuple(sorted(strands(wide))))
        self.assertEqual(len(strands(wide)), 72)

    def test_over(self):
        cloth = Cloth(("x-", "-x"))
        self.assertIs(is_over(cloth, ("end", 0), ("pick", 0)), True)
        self.assertIs(is_over(cloth, ("pick", 0), ("end", 0)), False)
        self.assertIs(is_over(cloth, ("pick", 0), ("end", 1)), True)
        self.assertIs(is_over(cloth, one=("end", 0), other=("pick", 1)), False)
        self.assertIs(is_over(cloth, ("end", 0), ("end", 1)), False)
        self.assertIs(is_over(cloth, ("pick", 0), ("pick", 0)), False)

    def test_lead(self):
        cloth = Cloth(("xx", "-x"))
        self.assertIs(does_lead(cloth, ("end", 0), ("pick", 0)), True)
        self.assertIs(does_lead(cloth, ("end", 1), ("pick", 0)), True)
        self.assertIs(does_lead(cloth, ("end", 1), ("end", 0)), True)
        self.assertIs(does_lead(cloth, ("end", 0), ("end", 1)), False)
        self.assertIs(does_lead(cloth, ("end", 0), ("end", 0)), False)
        plain = Cloth(("x-", "-x"))
        self.assertIs(does_lead(plain, one=("end", 0), other=("end", 0)), True)

    def test_lead_step_by_step(self):
        rng = random.Random(17)
        for _ in range(120):
            cloth = random_cloth(rng, 6, 5)
            row = strands(cloth)
            for one in row:
                found = led_from(cloth, one)
                self.assertEqual([other for other in row if does_lead(cloth, one, other)], sorted(found))

    def test_limits(self):
        cloth = woven(Loom(4, (0, 1, 2, 3) * 3, ((0,), (1,), (2,), (3,))), "abcd" * 15)
        for one in strands(cloth):
            self.assertTrue(does_lead(cloth, one, ("end", 0)))

    def test_turned(self):
        cloth = Cloth(("x-", "-x"))
        self.assertEqual(turned_at(cloth, ()), cloth)
        self.assertEqual(turned_at(cloth, ((0, 0),)).picks, ("--", "-x"))
        self.assertEqual(turned_at(cloth, crossings=((0, 1), (1, 0), (1, 1))).picks, ("xx", "x-"))
        self.assertEqual(cloth.picks, ("x-", "-x"))


if __name__ == "__main__":
    unittest.main()
