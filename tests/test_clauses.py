"""What follows from the colours of strands, and its papers: point 38."""

import random
import time
import unittest

from loomhold.clauses import does_make, forced, forced_holds, judge_stripes, stripes_hold, why_forced
from loomhold.errors import Clash
from loomhold.pictures import Picture, are_terms
from tests.helpers import all_changed, changed_values, raised, some_values, with_another_row
from tests.test_pictures import (
    CHECK, E0, E1, OTHER, P0, P1, are_right_stripes, colour, every_stripes, is_right_strand, keeps_told, picture_shown, random_picture,
    random_terms, strands_of, unshown_told)

UNLIKE = (("unlike", E0, E1),)
DARK = (("colour", E0, "d"),)


def makes(picture, terms, one, other):
    """Tell whether a coloured strand makes another one, as point 38 words it."""
    (s, c), (t, e) = one, other
    if s[0] != t[0]:
        end, pick = (s, t) if s[0] == "end" else (t, s)
        if picture.rows[pick[1]][end[1]] == e and c != e:
            return True
    if s == t and ("colour", t, e) in terms and c != e:
        return True
    for word, strand, further in terms:
        if word != "colour" and {strand, further} == {s, t} and s != t and (c == e) == (word == "alike"):
            return True
    return False


def coloured(picture):
    return [(strand, sign) for strand in strands_of(picture) for sign in "dl"]


def all_shown(picture, terms):
    """All stripes that show the picture and keep the terms, all tried one by one."""
    return [stripes for stripes in every_stripes(picture.ends, len(picture))
            if not unshown_told(picture, stripes) and keeps_told(stripes, terms)]


def is_right_walk(picture, terms, thing):
    if type(thing) is not tuple or len(thing) == 0:
        return False
    for one in thing:
        if type(one) is not tuple or len(one) != 2 or not is_right_strand(picture, one[0]):
            return False
        if type(one[1]) is not str or one[1] not in ["d", "l"]:
            return False
    return all(makes(picture, terms, one, other) for one, other in zip(thing, thing[1:]))


def is_right_stripes_paper(picture, terms, thing):
    """Tell whether a value is a paper "shown" or "clash", as point 38 words it."""
    if type(thing) is not tuple or len(thing) != 2 or type(thing[0]) is not str:
        return False
    if thing[0] == "shown":
        if not are_right_stripes(picture.ends, len(picture), thing[1]):
            return False
        return not unshown_told(picture, thing[1]) and keeps_told(thing[1], terms)
    if thing[0] != "clash" or not is_right_walk(picture, terms, thing[1]):
        return False
    ring = thing[1]
    return makes(picture, terms, ring[-1], ring[0]) and any((strand, OTHER[sign]) in ring for strand, sign in ring)


def is_right_forced_paper(picture, terms, thing):
    if type(thing) is not tuple or len(thing) != 2 or type(thing[0]) is not str or thing[0] != "forced":
        return False
    if not is_right_walk(picture, terms, thing[1]):
        return False
    first, last = thing[1][0], thing[1][-1]
    return first[0] == last[0] and first[1] != last[1]


def some_cases(seed, many, most=3):
    """Pictures with terms: some with stripes, some with none."""
    rng = random.Random(seed)
    out = []
    for _ in range(many):
        picture = picture_shown(rng, most, most)[0] if rng.random() < 0.6 else random_picture(rng, most, most)
        out.append((picture, random_terms(rng, picture)))
    return out


class MakesTest(unittest.TestCase):

    def test_pictures(self):
        self.assertIs(does_make(CHECK, (E0, "l"), (P0, "d")), True)
        self.assertIs(does_make(CHECK, (P0, "l"), (E0, "d")), True)
        self.assertIs(does_make(CHECK, (E0, "d"), (P0, "d")), False)
        self.assertIs(does_make(CHECK, (E0, "d"), (P0, "l")), False)
        self.assertIs(does_make(CHECK, (E0, "d"), (P1, "l")), True)
        self.assertIs(does_make(CHECK, (E0, "l"), (E1, "d")), False)
        self.assertIs(does_make(Picture(("..", "..")), (E0, "l"), (P0, "d")), False)

    def test_terms(self):
        blank = Picture(("..", ".."))
        self.assertIs(does_make(blank, (E0, "l"), (E0, "d"), terms=DARK), True)
        self.assertIs(does_make(blank, (E0, "d"), (E0, "l"), terms=DARK), False)
        self.assertIs(does_make(blank, (E0, "d"), (E0, "d"), terms=DARK), False)
        for terms, told in (((("alike", E0, P0),), True), ((("alike", P0, E0),), True), ((("unlike", P0, E0),), False), ((), False)):
            self.assertIs(does_make(picture=blank, one=(E0, "l"), other=(P0, "l"), terms=terms), told)
            self.assertIs(does_make(blank, (P0, "d"), (E0, "d"), terms=terms), told)
        for terms, told in (((("unlike", E0, P0),), True), ((("unlike", P0, E0),), True), ((("alike", P0, E0),), False)):
            self.assertIs(does_make(blank, (E0, "l"), (P0, "d"), terms=terms), told)
        both = (("alike", E0, E1), ("unlike", E0, E1))
        self.assertTrue(all(does_make(blank, (E0, c), (E1, e), terms=both) for c in "dl" for e in "dl"))

    def test_one_by_one(self):
        for picture, terms in some_cases(341, 60):
            for one in coloured(picture):
                for other in coloured(picture):
                    self.assertIs(does_make(picture, one, other, terms=terms), makes(picture, terms, one, other))


class PapersTest(unittest.TestCase):

    def test_examples(self):
        self.assertEqual(judge_stripes(CHECK, terms=UNLIKE)[0], "clash")
        ring = ((E0, "d"), (E1, "l"), (P1, "d"), (E0, "l"), (E1, "d"), (P0, "l"))
        self.assertIs(stripes_hold(CHECK, ("clash", ring), terms=UNLIKE), True)
        self.assertIs(stripes_hold(CHECK, ("clash", ring)), False)
        self.assertEqual(forced(CHECK), ())
        self.assertEqual(forced(CHECK, terms=DARK), ((E0, "d"), (E1, "d"), (P0, "l"), (P1, "l")))
        paper = ("forced", ((P1, "d"), (E0, "l"), (E0, "d"), (P1, "l")))
        self.assertIs(forced_holds(CHECK, paper, terms=DARK), True)
        self.assertIs(forced_holds(CHECK, paper), False)
        self.assertEqual(why_forced(CHECK, P1, terms=DARK)[1][-1], (P1, "l"))

    def test_without_terms_there_may_be_a_clash_as_well(self):
        # 'dl' and 'ld' at the first two ends, and at the others both ways: whatever is chosen, some crossing has neither.
        found = 0
        rng = random.Random(342)
        for _ in range(200):
            picture = random_picture(rng, 3, 3, share=1)
            paper = judge_stripes(picture)
            self.assertEqual(paper[0] == "shown", all_shown(picture, ()) != [])
            found += paper[0] == "clash"
        self.assertEqual(found, 0)
        # Ends of one colour and picks of the other one show every picture.
        self.assertIs(stripes_hold(picture, ("shown", ("d" * picture.ends, "l" * len(picture)))), True)

    def test_terms_at_odds(self):
        blank = Picture(("..", ".."))
        for terms in ((("alike", E0, E1), ("unlike", E1, E0)), (("alike", E0, P0), ("unlike", E0, P0)),
                      (("colour", P1, "d"), ("colour", P1, "l")), (("unlike", E0, E1), ("unlike", E0, P0), ("unlike", E1, P0))):
            self.assertIs(are_terms(blank, terms), True)
            paper = judge_stripes(blank, terms=terms)
            self.assertEqual(paper[0], "clash")
            self.assertTrue(is_right_stripes_paper(blank, terms, paper))
            for call, more in ((forced, ()), (why_forced, (E0,))):
                told = raised(self, Clash, call, blank, *more, terms=terms).paper
                self.assertIs(stripes_hold(blank, told, terms=terms), True)
                self.assertEqual(told[0], "clash")
        # Both orders of two strands may stand there.
        self.assertEqual(judge_stripes(blank, terms=(("alike", E0, E1), ("alike", E1, E0)))[0], "shown")

    def test_one_by_one(self):
        kinds = {}
        for picture, terms in some_cases(343, 250):
            before = (picture.rows, terms)
            shown = all_shown(picture, terms)
            paper = judge_stripes(picture=picture, terms=terms)
            self.assertEqual(paper[0], "shown" if shown else "clash")
            self.assertTrue(is_right_stripes_paper(picture, terms, paper))
            self.assertIs(stripes_hold(picture=picture, thing=paper, terms=terms), True)
            kinds[paper[0]] = kinds.get(paper[0], 0) + 1
            for stripes in every_stripes(picture.ends, len(picture)):
                self.assertIs(stripes_hold(picture, ("shown", stripes), terms=terms), stripes in shown)
            if not shown:
                told = raised(self, Clash, forced, picture, terms=terms).paper
                self.assertTrue(is_right_stripes_paper(picture, terms, told) and told[0] == "clash")
                told = raised(self, Clash, why_forced, picture, P0, terms=terms).paper
                self.assertTrue(is_right_stripes_paper(picture, terms, told) and told[0] == "clash")
                continue
            must = tuple((strand, sign) for strand, sign in coloured(picture) if all(colour(stripes, strand) == sign for stripes in shown))
            self.assertEqual(forced(picture=picture, terms=terms), must)
            for strand in strands_of(picture):
                paper = why_forced(picture=picture, strand=strand, terms=terms)
                if paper is None:
                    self.assertNotIn(strand, [one[0] for one in must])
                else:
                    self.assertIn((strand, paper[1][-1][1]), must)
                    self.assertEqual(paper[1][-1][0], strand)
                    self.assertTrue(is_right_forced_paper(picture, terms, paper))
                    self.assertIs(forced_holds(picture=picture, thing=paper, terms=terms), True)
            self.assertEqual(before, (picture.rows, terms))
        self.assertGreater(min(kinds.values()), 30)

    def test_rings_of_others(self):
        ring = ((E0, "d"), (E1, "l"), (P1, "d"), (E0, "l"), (E1, "d"), (P0, "l"))
        for turn in range(6):
            self.assertIs(stripes_hold(CHECK, ("clash", ring[turn:] + ring[:turn]), terms=UNLIKE), True)
        # Strands twice in a ring, and walks that go round several times.
        self.assertIs(stripes_hold(CHECK, ("clash", ring * 3), terms=UNLIKE), True)
        self.assertIs(forced_holds(CHECK, ("forced", ((P1, "d"), (E0, "l"), (P1, "d"), (E0, "l"), (E0, "d"), (P1, "l"))), terms=DARK),
                      makes(CHECK, DARK, (E0, "l"), (P1, "d")))
        # A ring in which no strand has both colours is no clash.
        alike = (("alike", E0, E1), ("alike", E1, E0))
        for thing in ((((E0, "d"), (E1, "d")), False), (((E0, "d"), (E1, "d")) * 2, False)):
            self.assertIs(stripes_hold(Picture(("..",)), ("clash", thing[0]), terms=alike), thing[1])
        # There are papers "forced" also where there is a clash.
        both = (("colour", E0, "d"), ("colour", E0, "l"))
        self.assertIs(forced_holds(CHECK, ("forced", ((E0, "d"), (E0, "l"))), terms=both), True)
        self.assertIs(forced_holds(CHECK, ("forced", ((E0, "l"), (E0, "d"))), terms=both), True)
        self.assertIs(forced_holds(CHECK, ("forced", ((E0, "l"), (E0, "d"))), terms=(("colour", E0, "d"),)), True)
        self.assertIs(forced_holds(CHECK, ("forced", ((E0, "d"), (E0, "l"))), terms=(("colour", E0, "d"),)), False)
        self.assertIs(forced_holds(CHECK, ("forced", ((E0, "d"),)), terms=both), False)

    def test_longer_walks(self):
        rng = random.Random(344)
        for picture, terms in some_cases(345, 80):
            row = coloured(picture)
            for _ in range(20):
                walk = [rng.choice(row)]
                for _ in range(rng.randrange(1, 9)):
                    further = [other for other in row if makes(picture, terms, walk[-1], other)]
                    if further:
                        walk.append(rng.choice(further))
                for word in ("forced", "clash"):
                    thing = (word, tuple(walk))
                    self.assertIs(stripes_hold(picture, thing, terms=terms), is_right_stripes_paper(picture, terms, thing))
                    self.assertIs(forced_holds(picture, thing, terms=terms), is_right_forced_paper(picture, terms, thing))

    def test_wrong_ones(self):
        ring = ((E0, "d"), (E1, "l"), (P1, "d"), (E0, "l"), (E1, "d"), (P0, "l"))
        wrong = [("clash", ring[:5]), ("clash", ring[1:]), ("clash", ring[::-1]), ("clash", list(ring)), ["clash", ring], ("clash", ring, ()),
                 ("clash",), ("clash", ()), ("shown", ring), ("forced", ring), ring, None, ("clash", (((("end", False)), "d"), *ring[1:])),
                 ("clash", ([E0, "d"], *ring[1:])), ("clash", ((["end", 0], "d"), *ring[1:])), ("clash", ((E0, ["d"]), *ring[1:])),
                 ("clash", ((E0, "d", 0), *ring[1:])), ("clash", ((E0, "."), *ring[1:])), ("clash", ((("end", 2), "d"), *ring[1:])),
                 ("clash", ((E0, "d"),)), ("shown", ("dd", "ll")), ("shown", ("dl", "ld")), ("clash", ((E0, ""), *ring[1:]))]
        for thing in wrong:
            self.assertIs(stripes_hold(CHECK, thing, terms=UNLIKE), False, thing)
        for thing in (("shown", ["dd", "ll"]), ("shown", ("dd", "l")), ("shown", ("dd", "ll", "")), ("shown", ("dd",)), ("shown", None), ("shown",),
                      ("shown", ("dd", "lll")), ("shown", ("dd", ["l", "l"])), ("shown", ("dd", "dd")), ["shown", ("dd", "ll")], ("dd", "ll")):
            self.assertIs(stripes_hold(CHECK, thing), False, thing)
        walk = ((P1, "d"), (E0, "l"), (E0, "d"), (P1, "l"))
        for thing in (("forced", walk[1:]), ("forced", walk[:3]), ("forced", walk[::-1]), ("forced", list(walk)), ["forced", walk], ("forced",),
                      ("forced", ()), ("forced", walk, ()), ("clash", walk), walk, None, ("forced", (walk[0], walk[3])), ("forced", walk[:1])):
            self.assertIs(forced_holds(CHECK, thing, terms=DARK), False, thing)
        self.assertIs(forced_holds(CHECK, ("forced", walk[1:3]), terms=DARK), True)

    def test_any_and_changed_papers(self):
        values = some_values(346, 300)
        for picture, terms in ((CHECK, ()), (CHECK, UNLIKE), (Picture((".",)), (("colour", E0, "d"),)), (Picture(("..", "..")), DARK)):
            for value in values:
                self.assertIs(stripes_hold(picture, value, terms=terms), is_right_stripes_paper(picture, terms, value), value)
                self.assertIs(forced_holds(picture, value, terms=terms), is_right_forced_paper(picture, terms, value), value)
        for seed, (picture, terms) in enumerate(some_cases(347, 80)):
            paper = judge_stripes(picture, terms=terms)
            papers = [paper]
            if paper[0] == "shown":
                papers.extend(why_forced(picture, strand, terms=terms) for strand in strands_of(picture)[:2])
            for made in papers:
                more = [("clash", rows) for rows in with_another_row(made[1])] if made is not None and made[0] == "clash" else []
                for value in [*changed_values(seed, made, 25), *all_changed(made), *more]:
                    self.assertIs(stripes_hold(picture, value, terms=terms), is_right_stripes_paper(picture, terms, value), value)
                    self.assertIs(forced_holds(picture, value, terms=terms), is_right_forced_paper(picture, terms, value), value)

    def test_sizes_at_the_limits(self):
        rng = random.Random(348)
        begin = time.monotonic()
        kinds = set()
        for turn in range(30):
            if turn % 2:
                picture, stripes = picture_shown(rng, 10, 10)
            else:
                picture, stripes = random_picture(rng, 10, 10, 0.2), None
            terms = random_terms(rng, picture, 20)
            if stripes is not None:
                terms = tuple(item for item in terms if keeps_told(stripes, (item,)))
            paper = judge_stripes(picture, terms=terms)
            kinds.add(paper[0])
            self.assertTrue(stripes is None or paper[0] == "shown")
            self.assertTrue(is_right_stripes_paper(picture, terms, paper))
            self.assertIs(stripes_hold(picture, paper, terms=terms), True)
            if paper[0] == "shown":
                for strand, sign in forced(picture, terms=terms):
                    told = why_forced(picture, strand, terms=terms)
                    self.assertTrue(is_right_forced_paper(picture, terms, told))
                    self.assertEqual(told[1][-1], (strand, sign))
        self.assertEqual(kinds, {"shown", "clash"})
        self.assertLess(time.monotonic() - begin, 20)


if __name__ == "__main__":
    unittest.main()
