"""Cloths that show a picture with stripes, and whether one of them holds: point 40."""

import itertools
import random
import time
import unittest

from loomhold.cloths import Cloth
from loomhold.errors import NotShown
from loomhold.levels import does_hold
from loomhold.pictures import Picture, does_show
from loomhold.showing import can_hold, cloth_by, free_crossings, judge_showing, showing_holds
from tests.helpers import all_changed, changed_values, is_sorted, raised, some_values, with_another_row
from tests.test_pictures import (
    CHECK, E0, E1, P0, P1, colour, every_cloth, every_stripes, is_right_strand, picture_shown, random_picture, strands_of, unshown_told)

HALF = Picture(("dd", ".."))
HALF_STRIPES = ("dd", "ld")
BLANK = Picture(("..", ".."))


def may_lie(picture, stripes, one, other):
    """Tell whether one strand may lie over another one, as point 40 words it."""
    if one[0] == other[0]:
        return False
    end, pick = (one, other) if one[0] == "end" else (other, one)
    sign = picture.rows[pick[1]][end[1]]
    if sign == "." or colour(stripes, end) == colour(stripes, pick):
        return True
    return colour(stripes, one) == sign


def is_right_showing_paper(picture, stripes, thing):
    """Tell whether a value is a paper as point 40 words it."""
    if unshown_told(picture, stripes) or type(thing) is not tuple or len(thing) != 2 or type(thing[0]) is not str:
        return False
    if thing[0] == "holds":
        cloth = thing[1]
        if type(cloth) is not Cloth or (cloth.ends, len(cloth)) != (picture.ends, len(picture)):
            return False
        return does_show(picture, cloth, stripes) and does_hold(cloth)
    lot = thing[1]
    if thing[0] != "apart" or type(lot) is not tuple or not all(is_right_strand(picture, item) for item in lot):
        return False
    row = strands_of(picture)
    if not is_sorted(lot) or not 0 < len(lot) < len(row):
        return False
    return not any(may_lie(picture, stripes, one, other) for one in row if one not in lot for other in lot)


class ShowingTest(unittest.TestCase):

    def test_examples(self):
        self.assertEqual(free_crossings(CHECK, ("dd", "ll")), ())
        self.assertEqual(judge_showing(CHECK, ("dd", "ll")), ("holds", Cloth(("x-", "-x"))))
        self.assertIs(showing_holds(HALF, HALF_STRIPES, ("apart", (E0, E1, P1))), True)
        self.assertEqual(judge_showing(HALF, HALF_STRIPES)[0], "apart")
        self.assertEqual(free_crossings(HALF, HALF_STRIPES), ((1, 0), (1, 1)))

    def test_one_by_one(self):
        rng = random.Random(361)
        kinds = {}
        for turn in range(150):
            width, height = rng.choice([(2, 2), (2, 3), (3, 2), (3, 3)])
            stripes = ("".join(rng.choice("dl") for _ in range(width)), "".join(rng.choice("dl") for _ in range(height)))
            share = rng.choice([0.3, 0.6, 1])
            picture = Picture(tuple("".join(rng.choice((end, pick)) if rng.random() < share else "." for end in stripes[0])
                                    for pick in stripes[1]))
            before = (picture.rows, stripes)
            showing = [cloth for cloth in every_cloth(width, height) if does_show(picture, cloth, stripes)]
            free = tuple((pick, end) for pick in range(height) for end in range(width)
                         if len({cloth.picks[pick][end] for cloth in showing}) == 2)
            self.assertEqual(free_crossings(picture=picture, stripes=stripes), free)
            self.assertEqual(len(showing), 2 ** len(free))
            self.assertIn(cloth_by(picture=picture, stripes=stripes), showing)
            held = [cloth for cloth in showing if does_hold(cloth)]
            self.assertIs(can_hold(picture=picture, stripes=stripes), held != [])
            paper = judge_showing(picture=picture, stripes=stripes)
            self.assertEqual(paper[0], "holds" if held else "apart")
            self.assertTrue(is_right_showing_paper(picture, stripes, paper))
            self.assertIs(showing_holds(picture=picture, stripes=stripes, thing=paper), True)
            self.assertEqual(judge_showing(picture, stripes), paper)
            self.assertEqual(before, (picture.rows, stripes))
            kinds[paper[0]] = kinds.get(paper[0], 0) + 1
            for cloth in every_cloth(width, height)[::7]:
                self.assertIs(showing_holds(picture, stripes, ("holds", cloth)), cloth in held)
            row = strands_of(picture)
            lots = [lot for many in range(len(row) + 1) for lot in itertools.combinations(row, many)]
            found = [lot for lot in lots if showing_holds(picture, stripes, ("apart", lot))]
            self.assertEqual(found, [lot for lot in lots if is_right_showing_paper(picture, stripes, ("apart", lot))])
            self.assertEqual(found == [], held != [])
        self.assertGreater(min(kinds.values()), 20)

    def test_not_shown(self):
        rng = random.Random(362)
        found = 0
        for _ in range(80):
            picture = random_picture(rng, 3, 3)
            for stripes in every_stripes(picture.ends, len(picture))[::3]:
                unshown = unshown_told(picture, stripes)
                if not unshown:
                    self.assertTrue(does_show(picture, cloth_by(picture, stripes), stripes))
                    continue
                found += 1
                for call in (free_crossings, cloth_by, can_hold, judge_showing):
                    self.assertEqual(raised(self, NotShown, call, picture, stripes).crossing, unshown[0])
                for thing in (None, ("holds", cloth_by(Picture(("." * picture.ends,) * len(picture)), stripes)), ("apart", (E0,)), ("apart", (P0,))):
                    self.assertIs(showing_holds(picture, stripes, thing), False)
        self.assertGreater(found, 50)

    def test_one_row_or_one_end(self):
        self.assertEqual(free_crossings(Picture(("d.l",)), ("ddl", "d")), ((0, 0), (0, 1)))
        self.assertEqual(cloth_by(Picture(("d", "l")), ("d", "ll")).picks, ("x", "-"))
        self.assertEqual(free_crossings(Picture(("d", "l")), ("d", "ll")), ())
        self.assertEqual(free_crossings(Picture(("d", "l")), ("d", "dl")), ((0, 0),))
        self.assertEqual(free_crossings(Picture((".",)), ("d", "l")), ((0, 0),))

    def test_bound_and_free(self):
        # Bound: a colour that one of both has; free: no colour in the picture, or one that both have.
        picture = Picture(("d.d", "lll"))
        stripes = ("ddl", "dl")
        self.assertEqual(free_crossings(picture, stripes), ((0, 0), (0, 1), (1, 2)))
        cloth = cloth_by(picture, stripes)
        self.assertEqual((cloth.picks[0][2], cloth.picks[1][:2]), ("-", "--"))
        self.assertEqual(raised(self, NotShown, free_crossings, picture, ("ddl", "ll")).crossing, (0, 2))

    def test_any_free_crossing(self):
        self.assertEqual(judge_showing(BLANK, ("dd", "ll"))[0], "holds")
        self.assertIs(can_hold(BLANK, ("dd", "dd")), True)
        for picks in (("x-", "-x"), ("-x", "x-")):
            self.assertIs(showing_holds(BLANK, ("dd", "dl"), ("holds", Cloth(picks))), True)
        self.assertIs(showing_holds(BLANK, ("dd", "dl"), ("holds", Cloth(("xx", "-x")))), False)

    def test_wrong_ones(self):
        lot = (E0, E1, P1)
        wrong = [("apart", lot[:2]), ("apart", lot[1:]), ("apart", lot[::-1]), ("apart", list(lot)), ["apart", lot], ("apart", lot, ()), ("apart",),
                 ("apart", ()), ("apart", (E0, E1, P0, P1)), ("apart", (*lot, P1)), ("apart", (["end", 0], E1, P1)), ("holds", lot), lot, None,
                 ("apart", (("end", False), E1, P1)), ("apart", (E0, ("end", True), P1)), ("apart", (E0, E1, ("pick", 2))), ("apart", (P0,)),
                 ("holds", Cloth(("xx", "x-"))), ("holds", Cloth(("xx", "--"))), ("holds", Cloth(("x-", "-x"))), ("apart", (E0, E1, ("end", 2))),
                 ("apart", (E0, E1, ("pick", 10 ** 39))), ("apart", {}), ("apart", PLAIN_THING)]
        for thing in wrong:
            self.assertIs(showing_holds(HALF, HALF_STRIPES, thing), False, thing)
        for thing in (("holds", ("x-", "-x")), ("holds", Cloth(("x-",))), ("holds", Cloth(("x--", "-x-"))), ("holds", Cloth(("-x", "x-"))),
                      ("holds", Cloth(("x-", "-x", "xx"))), ["holds", Cloth(("x-", "-x"))], ("holds", Cloth(("x-", "-x")), 0), ("holds", CHECK),
                      ("shows", Cloth(("x-", "-x"))), ("holds", None), ("apart", (E0,)), ("holds", "x-\n-x")):
            self.assertIs(showing_holds(CHECK, ("dd", "ll"), thing), False, thing)
        self.assertIs(showing_holds(CHECK, ("dd", "ll"), ("holds", Cloth(("x-", "-x")))), True)

    def test_any_and_changed_papers(self):
        values = some_values(363, 300)
        for picture, stripes in ((CHECK, ("dd", "ll")), (HALF, HALF_STRIPES), (BLANK, ("dl", "dl")), (CHECK, ("ll", "ll"))):
            for value in values:
                self.assertIs(showing_holds(picture, stripes, value), is_right_showing_paper(picture, stripes, value), value)
        rng = random.Random(364)
        for seed in range(80):
            picture, stripes = picture_shown(rng, 4, 4, 0.9)
            if picture.ends > 1 and len(picture) > 1:
                paper = judge_showing(picture, stripes)
                more = [("apart", rows) for rows in with_another_row(paper[1])] if paper[0] == "apart" else []
                for value in [*changed_values(seed, paper, 30), *all_changed(paper), *more]:
                    self.assertIs(showing_holds(picture, stripes, value), is_right_showing_paper(picture, stripes, value), value)

    def test_sizes_at_the_limits(self):
        rng = random.Random(365)
        begin = time.monotonic()
        kinds = set()
        for turn in range(30):
            stripes = tuple("".join(rng.choice("dl" if turn % 3 else "dddl") for _ in range(10)) for _ in range(2))
            share = rng.choice([0, 0.5, 0.9, 1])
            rows = tuple("".join(rng.choice((end, pick)) if rng.random() < share else "." for end in stripes[0]) for pick in stripes[1])
            if turn % 4 == 0:
                # The first end lies over all that it crosses: its colour is seen everywhere.
                stripes = ("d" + stripes[0][1:], "l" * 10)
                rows = tuple("d" + "".join(rng.choice((end, "l")) for end in stripes[0][1:]) for _ in range(10))
            picture = Picture(rows)
            paper = judge_showing(picture, stripes)
            kinds.add(paper[0])
            self.assertTrue(is_right_showing_paper(picture, stripes, paper))
            self.assertIs(showing_holds(picture, stripes, paper), True)
            self.assertIs(can_hold(picture, stripes), paper[0] == "holds")
            for pick, end in free_crossings(picture, stripes):
                self.assertTrue(may_lie(picture, stripes, ("end", end), ("pick", pick)) and may_lie(picture, stripes, ("pick", pick), ("end", end)))
        self.assertEqual(kinds, {"holds", "apart"})
        self.assertLess(time.monotonic() - begin, 30)


PLAIN_THING = (CHECK, Cloth(("x",)))


if __name__ == "__main__":
    unittest.main()
