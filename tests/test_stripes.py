"""All stripes of a picture, and those of a face and a back: points 38 and 39."""

import random
import time
import unittest

from loomhold.clauses import stripes_hold
from loomhold.cloths import Cloth
from loomhold.errors import Clash, NotShown, OtherSize, TooMany
from loomhold.pictures import Picture, back, does_show, face, first_unshown
from loomhold.stripes import all_stripes, back_by, first_stripes, many_stripes, stripes_by
from tests.helpers import raised
from tests.test_clauses import DARK, UNLIKE, all_shown, some_cases
from tests.test_pictures import CHECK, E0, E1, every_cloth, every_stripes, picture_shown, random_picture, unshown_told


def first_of(picture, many, **more):
    """The first so many of all stripes."""
    out = []
    for stripes in all_stripes(picture, **more):
        out.append(stripes)
        if len(out) == many:
            break
    return out


class AllStripesTest(unittest.TestCase):

    def test_examples(self):
        self.assertEqual(list(all_stripes(CHECK)), [("dd", "ll"), ("ll", "dd")])
        self.assertEqual(first_stripes(CHECK), ("dd", "ll"))
        self.assertEqual(many_stripes(CHECK), 2)
        self.assertEqual(list(all_stripes(CHECK, terms=DARK)), [("dd", "ll")])

    def test_one_by_one(self):
        for picture, terms in some_cases(351, 250):
            shown = all_shown(picture, terms)
            self.assertEqual(list(all_stripes(picture=picture, terms=terms)), shown)
            self.assertEqual(many_stripes(picture=picture, terms=terms), len(shown))
            if shown:
                self.assertEqual(first_stripes(picture=picture, terms=terms), shown[0])
            else:
                paper = raised(self, Clash, first_stripes, picture, terms=terms).paper
                self.assertEqual(paper[0], "clash")
                self.assertIs(stripes_hold(picture, paper, terms=terms), True)

    def test_one_row_or_one_end(self):
        for picture in (Picture(("d",)), Picture((".",)), Picture(("dl.",)), Picture(("d", ".", "l"))):
            self.assertEqual(list(all_stripes(picture)), all_shown(picture, ()))

    def test_none(self):
        self.assertEqual(list(all_stripes(CHECK, terms=UNLIKE)), [])
        self.assertEqual(many_stripes(CHECK, terms=UNLIKE), 0)
        self.assertEqual(many_stripes(CHECK, terms=UNLIKE, most=0), 0)

    def test_most(self):
        for picture, terms in some_cases(352, 60):
            many = len(all_shown(picture, terms))
            for most in sorted({0, 1, many - 1, many, many + 1, 1000} - {-1}):
                if many > most:
                    self.assertEqual(raised(self, TooMany, many_stripes, picture, terms=terms, most=most).most, most)
                else:
                    self.assertEqual(many_stripes(picture, terms=terms, most=most), many)
        blank = Picture(("....",) * 6)
        self.assertEqual(raised(self, TooMany, many_stripes, blank).most, 1000)
        self.assertEqual(raised(self, TooMany, many_stripes, blank, most=1023).most, 1023)
        self.assertEqual(many_stripes(blank, most=1024), 1024)

    def test_very_many(self):
        begin = time.monotonic()
        blank = Picture(("." * 10,) * 10)
        found = first_of(blank, 200)
        self.assertEqual(found, [("d" * 10, format(k, "010b").replace("0", "d").replace("1", "l")) for k in range(200)])
        self.assertEqual(first_stripes(blank), ("d" * 10, "d" * 10))
        self.assertEqual(raised(self, TooMany, many_stripes, blank, most=2000).most, 2000)
        rng = random.Random(353)
        for _ in range(10):
            picture, stripes = picture_shown(rng, 10, 10, 0.1)
            found = first_of(picture, 200)
            self.assertEqual(found, sorted(set(found)))
            self.assertTrue(all(first_unshown(picture, told) is None for told in found))
            self.assertLessEqual(found[0], stripes)
            self.assertEqual(found[0], first_stripes(picture))
            self.assertTrue(len(found) == 200 or stripes in found)
        self.assertLess(time.monotonic() - begin, 20)

    def test_two_at_a_time(self):
        found = []
        for one in all_stripes(CHECK):
            for other in all_stripes(CHECK):
                found.append((one, other))
        rows = [("dd", "ll"), ("ll", "dd")]
        self.assertEqual(found, [(one, other) for one in rows for other in rows])


class BacksTest(unittest.TestCase):

    def test_examples(self):
        self.assertEqual(back_by(CHECK, ("dd", "ll")), Picture(("ld", "dl")))
        self.assertEqual(stripes_by(CHECK, Picture(("ld", "dl"))), (("dd", "ll"), ("ll", "dd")))
        self.assertEqual(stripes_by(Picture(("dl", "dl")), Picture(("ll", "dd"))), (("dl", "ld"),))

    def test_backs(self):
        rng = random.Random(354)
        for _ in range(40):
            picture = random_picture(rng, 3, 2, 1)
            cloths = every_cloth(picture.ends, len(picture))
            for stripes in every_stripes(picture.ends, len(picture)):
                unshown = unshown_told(picture, stripes)
                if unshown:
                    self.assertEqual(raised(self, NotShown, back_by, picture, stripes).crossing, unshown[0])
                    continue
                told = back_by(picture=picture, stripes=stripes)
                showing = [cloth for cloth in cloths if does_show(picture, cloth, stripes)]
                self.assertNotEqual(showing, [])
                for cloth in showing:
                    self.assertEqual(back(cloth, stripes), told)

    def test_stripes_of_a_face_and_a_back(self):
        rng = random.Random(355)
        counts = {}
        for turn in range(150):
            if turn % 3:
                cloth = Cloth(tuple("".join(rng.choice("x-") for _ in range(3)) for _ in range(2)))
                stripes = rng.choice(every_stripes(3, 2))
                one, other = face(cloth, stripes), back(cloth, stripes)
            else:
                one = random_picture(rng, 2, 2, 1)
                other = Picture(tuple("".join(rng.choice("dl") for _ in row) for row in one.rows))
            cloths = every_cloth(one.ends, len(one))
            told = [stripes for stripes in every_stripes(one.ends, len(one))
                    if any(face(cloth, stripes) == one and back(cloth, stripes) == other for cloth in cloths)]
            self.assertEqual(stripes_by(one=one, other=other), tuple(told))
            counts[len(told)] = counts.get(len(told), 0) + 1
            if len(told) == 2:
                self.assertTrue(all(len(set(ends)) == len(set(picks)) == 1 and ends[0] != picks[0] for ends, picks in told))
        self.assertEqual(sorted(counts), [0, 1, 2])

    def test_small_ones(self):
        self.assertEqual(stripes_by(Picture(("d",)), Picture(("d",))), (("d", "d"),))
        self.assertEqual(stripes_by(Picture(("d",)), Picture(("l",))), (("d", "l"), ("l", "d")))
        self.assertEqual(stripes_by(Picture(("dd",)), Picture(("dl",))), (("dl", "d"),))
        self.assertEqual(stripes_by(Picture(("dl",)), Picture(("dl",))), ())

    def test_other_sizes(self):
        for other in (Picture(("dl",)), Picture(("dld", "ldd")), Picture(("d", "l")), Picture(("dl", "ld", "dl"))):
            raised(self, OtherSize, stripes_by, CHECK, other)
            raised(self, OtherSize, stripes_by, other, CHECK)

    def test_far_ones(self):
        rng = random.Random(356)
        for _ in range(60):
            cloth = Cloth(tuple("".join(rng.choice("x-") for _ in range(10)) for _ in range(10)))
            stripes = tuple("".join(rng.choice("dl") for _ in range(10)) for _ in range(2))
            one, other = face(cloth, stripes), back(cloth, stripes)
            self.assertIn(stripes, stripes_by(one, other))
            self.assertEqual(back_by(one, stripes), other)
        self.assertEqual(stripes_by(Picture(("d" * 10,) * 10), Picture(("l" * 10,) * 10)), (("d" * 10, "l" * 10), ("l" * 10, "d" * 10)))

    def test_terms_of_two_strands(self):
        terms = (("alike", E0, E1), ("alike", E1, E0), ("colour", E0, "l"))
        self.assertEqual(list(all_stripes(CHECK, terms=terms)), [("ll", "dd")])
        self.assertEqual(first_stripes(CHECK, terms=terms), ("ll", "dd"))
        self.assertEqual(first_stripes(CHECK, terms=terms), first_stripes(CHECK, terms=terms))


if __name__ == "__main__":
    unittest.main()
