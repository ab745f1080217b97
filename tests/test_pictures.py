"""Pictures, stripes, terms, faces and backs: points 36 and 37, and the texts of pictures."""

import itertools
import random
import unittest

from loomhold.cloths import Cloth
from loomhold.errors import BadPicture, BadText, OtherSize
from loomhold.pictures import (
    Picture, are_stripes, are_terms, back, do_keep, does_show, face, first_unshown, is_whole)
from tests.helpers import FIXED_VALUES, all_changed, changed_values, is_sorted, is_true_int, raised, random_cloth, some_values, with_another_row

CHECK = Picture(("dl", "ld"))
E0, E1, P0, P1 = ("end", 0), ("end", 1), ("pick", 0), ("pick", 1)
OTHER = {"d": "l", "l": "d"}


def is_right_picture(thing):
    """Tell whether a value is the rows of a picture, as point 36 words it."""
    if type(thing) is not tuple or len(thing) == 0 or not all(type(row) is str and row != "" for row in thing):
        return False
    return all(set(row) <= set("dl.") and len(row) == len(thing[0]) for row in thing)


def are_right_stripes(width, height, thing):
    """Tell whether a value is stripes of a size, as point 36 words it."""
    if type(thing) is not tuple or len(thing) != 2 or not all(type(item) is str and set(item) <= {"d", "l"} for item in thing):
        return False
    return (len(thing[0]), len(thing[1])) == (width, height)


def is_right_strand(picture, thing):
    if type(thing) is not tuple or len(thing) != 2 or type(thing[0]) is not str or not is_true_int(thing[1]) or thing[1] < 0:
        return False
    return (thing[0] == "end" and thing[1] < len(picture.rows[0])) or (thing[0] == "pick" and thing[1] < len(picture.rows))


def are_right_terms(picture, thing):
    """Tell whether a value is terms, as point 37 words it."""
    if type(thing) is not tuple:
        return False
    for item in thing:
        if type(item) is not tuple or len(item) != 3 or type(item[0]) is not str or not is_right_strand(picture, item[1]):
            return False
        if item[0] == "colour":
            if type(item[2]) is not str or item[2] not in ["d", "l"]:
                return False
        elif item[0] not in ("alike", "unlike") or not is_right_strand(picture, item[2]) or item[1] == item[2]:
            return False
    return is_sorted(thing)


def random_picture(rng, picks=4, ends=4, share=None):
    """Some picture of at most so many picks and ends; about a share of its crossings has a colour."""
    width = rng.randrange(1, ends + 1)
    told = rng.choice([0, 0.3, 0.6, 1]) if share is None else share
    return Picture(tuple("".join(rng.choice("dl") if rng.random() < told else "." for _ in range(width))
                         for _ in range(rng.randrange(1, picks + 1))))


def picture_shown(rng, picks=4, ends=4, share=0.7):
    """Some picture with stripes that show it."""
    width, height = rng.randrange(1, ends + 1), rng.randrange(1, picks + 1)
    stripes = ("".join(rng.choice("dl") for _ in range(width)), "".join(rng.choice("dl") for _ in range(height)))
    rows = ["".join(rng.choice((end, pick)) if rng.random() < share else "." for end in stripes[0]) for pick in stripes[1]]
    return Picture(tuple(rows)), stripes


def strands_of(picture):
    return [("end", k) for k in range(len(picture.rows[0]))] + [("pick", k) for k in range(len(picture.rows))]


def random_terms(rng, picture, most=4):
    """Some terms of at most so many items."""
    row = strands_of(picture)
    items = set()
    for _ in range(rng.randrange(most + 1)):
        one, other = rng.sample(row, 2)
        items.add(rng.choice([("colour", one, rng.choice("dl")), ("alike", one, other), ("unlike", one, other)]))
    return tuple(sorted(items))


def every_stripes(width, height):
    """All stripes of a size, ascending."""
    return [("".join(ends), "".join(picks)) for ends in itertools.product("dl", repeat=width)
            for picks in itertools.product("dl", repeat=height)]


def every_cloth(width, height):
    rows = ["".join(signs) for signs in itertools.product("x-", repeat=width)]
    return [Cloth(picks) for picks in itertools.product(rows, repeat=height)]


def colour(stripes, strand):
    return stripes[0 if strand[0] == "end" else 1][strand[1]]


def keeps_told(stripes, terms):
    """Tell whether stripes keep terms, as point 37 words it."""
    for word, strand, other in terms:
        if word == "colour" and colour(stripes, strand) != other:
            return False
        if word == "alike" and colour(stripes, strand) != colour(stripes, other):
            return False
        if word == "unlike" and colour(stripes, strand) == colour(stripes, other):
            return False
    return True


def unshown_told(picture, stripes):
    """The crossings at which the picture has a colour that neither strand has."""
    return [(pick, end) for pick, row in enumerate(picture.rows) for end, sign in enumerate(row)
            if sign != "." and sign not in (stripes[0][end], stripes[1][pick])]


class PictureTest(unittest.TestCase):

    def test_made(self):
        picture = Picture(("d.l", "lld"))
        self.assertEqual((picture.rows, picture.ends, len(picture)), (("d.l", "lld"), 3, 2))
        self.assertEqual(str(picture), "d.l\nlld")
        self.assertEqual((Picture(rows=(".",)).ends, len(Picture((".",)))), (1, 1))

    def test_bad_ones(self):
        for value, part in (((), "rows"), (["d"], "rows"), ("d", "rows"), (None, "rows"), (("",), 0), (("d", ""), 1), (("d", "dl"), 1),
                            (("dx",), 0), (("d", None), 1), ((["d"],), 0), (("dl", "ld", "l"), 2), (("d\n",), 0), (("D",), 0), (("d", True), 1),
                            ((("d",), "d"), 0), (("d", "x", "dd"), 1), (("d-",), 0)):
            self.assertEqual(raised(self, BadPicture, Picture, value).part, part)
        for value in some_values(321, 400):
            if is_right_picture(value):
                self.assertEqual(Picture(value).rows, value)
            else:
                part = raised(self, BadPicture, Picture, value).part
                if part == "rows":
                    self.assertTrue(type(value) is not tuple or value == ())
                else:
                    self.assertTrue(is_right_picture(value[:part]) or part == 0)
                    self.assertFalse(is_right_picture(value[:part + 1]))

    def test_equal(self):
        self.assertTrue(CHECK == Picture(("dl", "ld")))
        self.assertFalse(CHECK != Picture(("dl", "ld")))
        for other in (Picture(("dl", "ll")), Picture(("dl",)), Cloth(("x-", "-x")), ("dl", "ld"), "dl\nld", None, 2):
            self.assertFalse(CHECK == other)
            self.assertTrue(CHECK != other)

    def test_texts(self):
        rng = random.Random(322)
        for _ in range(60):
            picture = random_picture(rng, 10, 10)
            self.assertEqual(Picture.read(str(picture)), picture)
            self.assertEqual(str(Picture.read(text=str(picture))), str(picture))
        for text, line in (("", 1), ("\n", 1), ("d\n", 2), ("d\n\nd", 2), ("dl\nd", 2), ("dl\nld\nx.", 3), ("d l", 1), ("x-", 1), ("D", 1),
                           ("dl\nld\n", 3), ("d\r", 1), (None, 0), (("dl",), 0), (["d"], 0), (0, 0), (True, 0), (CHECK, 0)):
            self.assertEqual(raised(self, BadText, Picture.read, text).line, line, text)
        for value in some_values(323, 300):
            if type(value) is str and is_right_picture(tuple(value.split("\n"))):
                self.assertEqual(str(Picture.read(value)), value)
            else:
                line = raised(self, BadText, Picture.read, value).line
                self.assertEqual(line == 0, type(value) is not str)

    def test_whole(self):
        self.assertIs(is_whole(CHECK), True)
        self.assertIs(is_whole(picture=Picture(("dd", "d."))), False)
        self.assertIs(is_whole(Picture((".", "l"))), False)
        self.assertIs(is_whole(Picture(("l",))), True)


class StripesTest(unittest.TestCase):

    def test_are_stripes(self):
        for thing, told in ((("dl", "ld"), True), (("dd", "dd"), True), (["dl", "ld"], False), (("dl", "l"), False), (("dl", "ldl"), False),
                            (("d", "ld"), False), (("dl",), False), (("dl", "ld", ""), False), (("d.", "ld"), False), (("dl", ["l", "d"]), False),
                            (("", ""), False), (None, False), ("dlld", False), (("dl", None), False), (("dL", "ld"), False)):
            self.assertIs(are_stripes(CHECK, thing), told, thing)
        self.assertIs(are_stripes(picture=Picture(("...",)), thing=("ddl", "d")), True)
        self.assertIs(are_stripes(Picture(("...",)), ("d", "ddl")), False)
        for picture in (CHECK, Picture((".",)), Picture(("dd",))):
            for value in some_values(324, 300):
                told = are_right_stripes(picture.ends, len(picture), value)
                self.assertIs(are_stripes(picture, value), told)

    def test_are_terms(self):
        good = (("alike", E0, E1), ("alike", E1, E0), ("colour", E0, "d"), ("colour", E0, "l"), ("unlike", E0, E1), ("unlike", P1, E0))
        self.assertIs(are_terms(CHECK, good), True)
        self.assertIs(are_terms(picture=CHECK, thing=()), True)
        for thing in (good[::-1], good + good[5:], list(good), (list(good[0]),), (("alike", E0, E0),), (("alike", E0),), (("colour", E0, "."),),
                      (("colour", E0, "dl"),), (("colour", E0, ""),), (("colour", E0, E1),), (("colour", ("end", 2), "d"),), (("alike", E0, "d"),),
                      (("alike", E0, ("pick", 2)),), (("alike", ("end", False), E1),), (("colour", ("end", False), "d"),), (("like", E0, E1),),
                      (("colour", E0, "d", 0),), None, "", {}, (None,), ((),), (("colour", ["end", 0], "d"),), (("colour", ("end", -1), "d"),),
                      (("unlike", E0, ["end", 1]),), (("colour", E0, ["d"]),), (("unlike", P0, P0),)):
            self.assertIs(are_terms(CHECK, thing), False, thing)
        for value in some_values(325, 300):
            self.assertIs(are_terms(CHECK, value), are_right_terms(CHECK, value))
        rng = random.Random(326)
        for seed in range(40):
            picture = Picture(("dl.", "l.d"))
            terms = random_terms(rng, picture, 6)
            self.assertIs(are_terms(picture, terms), True)
            for value in [*changed_values(seed, terms, 30), *all_changed(terms), *with_another_row(terms)]:
                self.assertIs(are_terms(picture, value), are_right_terms(picture, value), value)

    def test_faces_and_backs(self):
        cloth = Cloth(("x-", "-x"))
        self.assertEqual(face(cloth, ("dl", "ld")), Picture(("dl", "dl")))
        self.assertEqual(back(cloth, ("dl", "ld")), Picture(("ll", "dd")))
        self.assertEqual(face(cloth=Cloth(("xx-",)), stripes=("ddl", "l")), Picture(("ddl",)))
        self.assertEqual(back(cloth=Cloth(("xx-",)), stripes=("ddl", "l")), Picture(("lll",)))
        rng = random.Random(327)
        for _ in range(200):
            cloth = random_cloth(rng, 6, 6)
            stripes = ("".join(rng.choice("dl") for _ in range(cloth.ends)), "".join(rng.choice("dl") for _ in cloth.picks))
            above = tuple("".join(end if sign == "x" else pick for sign, end in zip(row, stripes[0]))
                          for row, pick in zip(cloth.picks, stripes[1]))
            below = tuple("".join(pick if sign == "x" else end for sign, end in zip(row, stripes[0]))
                          for row, pick in zip(cloth.picks, stripes[1]))
            self.assertEqual((face(cloth, stripes).rows, back(cloth, stripes).rows), (above, below))
            self.assertTrue(is_whole(face(cloth, stripes)) and is_whole(back(cloth, stripes)))

    def test_other_sizes(self):
        cloth = Cloth(("x-", "-x"))
        for value in [*some_values(328, 200), ("dl", "l"), ("dll", "ld"), ["dl", "ld"], ("d.", "ld")]:
            if not are_right_stripes(2, 2, value):
                raised(self, OtherSize, face, cloth, value)
                raised(self, OtherSize, back, cloth, value)
                raised(self, OtherSize, does_show, CHECK, cloth, value)
        for other in (Cloth(("x-",)), Cloth(("x--", "-x-")), Cloth(("x", "x")), Cloth(("x-", "-x", "xx"))):
            raised(self, OtherSize, does_show, CHECK, other, ("dl", "ld"))
            raised(self, OtherSize, does_show, CHECK, other, None)
            sized = ("d" * other.ends, "l" * len(other))
            raised(self, OtherSize, does_show, CHECK, other, sized)
            self.assertEqual(face(other, sized).ends, other.ends)

    def test_showing(self):
        cloth = Cloth(("x-", "-x"))
        self.assertIs(does_show(CHECK, cloth, ("dd", "ll")), True)
        self.assertIs(does_show(CHECK, cloth, ("ll", "dd")), False)
        self.assertIs(does_show(picture=Picture(("..", "..")), cloth=cloth, stripes=("ll", "dd")), True)
        rng = random.Random(329)
        told = set()
        for _ in range(300):
            picture, stripes = picture_shown(rng, 3, 3)
            for cloth in rng.sample(every_cloth(picture.ends, len(picture)), 2):
                rows = face(cloth, stripes).rows
                shown = all(sign in (".", other) for row, others in zip(picture.rows, rows) for sign, other in zip(row, others))
                self.assertIs(does_show(picture, cloth, stripes), shown)
                told.add(shown)
        self.assertEqual(told, {True, False})

    def test_shown_by_some_cloth(self):
        rng = random.Random(330)
        for _ in range(30):
            picture = random_picture(rng, 2, 3)
            cloths = every_cloth(picture.ends, len(picture))
            for stripes in every_stripes(picture.ends, len(picture)):
                unshown = unshown_told(picture, stripes)
                self.assertEqual(first_unshown(picture, stripes), unshown[0] if unshown else None)
                self.assertEqual(any(does_show(picture, cloth, stripes) for cloth in cloths), not unshown)

    def test_first_unshown(self):
        self.assertIsNone(first_unshown(CHECK, ("dd", "ll")))
        self.assertEqual(first_unshown(CHECK, ("dd", "dl")), (0, 1))
        self.assertEqual(first_unshown(picture=CHECK, stripes=("ll", "ll")), (0, 0))
        self.assertEqual(first_unshown(Picture(("..", ".d")), ("ll", "ll")), (1, 1))
        self.assertIsNone(first_unshown(Picture(("..", "..")), ("ll", "ll")))

    def test_terms_kept(self):
        rng = random.Random(331)
        told = set()
        for _ in range(300):
            picture = random_picture(rng)
            terms = random_terms(rng, picture)
            stripes = rng.choice(every_stripes(picture.ends, len(picture)))
            keeps = keeps_told(stripes, terms)
            self.assertIs(do_keep(picture, stripes, terms), keeps)
            told.add(keeps)
        self.assertEqual(told, {True, False})
        self.assertIs(do_keep(picture=CHECK, stripes=("dl", "dl"), terms=()), True)
        self.assertIs(do_keep(CHECK, ("dl", "dl"), (("alike", E0, P0), ("unlike", E0, E1), ("unlike", P1, E0))), True)
        self.assertIs(do_keep(CHECK, ("dl", "dl"), (("colour", E1, "d"),)), False)
        self.assertIs(do_keep(CHECK, ("dl", "dl"), (("alike", E0, P0), ("unlike", E0, P0))), False)

    def test_the_same_again(self):
        cloth = Cloth(("x-", "-x"))
        stripes = ("dl", "ld")
        self.assertEqual(face(cloth, stripes), face(cloth, stripes))
        self.assertEqual((cloth, stripes), (Cloth(("x-", "-x")), ("dl", "ld")))
        self.assertFalse(any(are_terms(CHECK, value) != are_terms(CHECK, value) for value in FIXED_VALUES))


if __name__ == "__main__":
    unittest.main()
