"""Crossings turned, free lots, how few, and papers of mends: points 52 to 55."""

import itertools
import random
import unittest

from loomhold.cloths import Cloth, is_over, strands, turned_at
from loomhold.levels import does_hold, levels_of
from loomhold.mending import border, fewest_turns, is_free_lot, is_mend, judge_mend, mend, mend_holds, mended
from tests.helpers import all_changed, changed_values, is_sorted, is_true_int, random_cloth, some_values

PLAIN_CLOTH = Cloth(("x-", "-x"))
FULL = Cloth(("xx", "xx"))
SIDE = Cloth(("x-", "x-"))
STEPS = Cloth(("xxx", "xxx", "x--"))
E0, E1, E2, P0, P1, P2 = ("end", 0), ("end", 1), ("end", 2), ("pick", 0), ("pick", 1), ("pick", 2)


def crossings(cloth):
    return [(pick, end) for pick in range(len(cloth)) for end in range(cloth.ends)]


def all_cloths(picks, ends):
    rows = ["".join(row) for row in itertools.product("x-", repeat=ends)]
    return [Cloth(row) for row in itertools.product(rows, repeat=picks)]


def do_all_lead(cloth):
    """Tell whether a cloth holds, by going from strand to strand."""
    row = strands(cloth)
    for start in row:
        met = {start}
        while True:
            more = {other for one in met for other in row if is_over(cloth, one, other)} - met
            if not more:
                break
            met |= more
        if met != set(row):
            return False
    return True


def told_fewest(cloth):
    """The least number of crossings with which a cloth holds, all sets being tried; None without any."""
    for many in range(len(crossings(cloth)) + 1):
        for turned in itertools.combinations(crossings(cloth), many):
            if do_all_lead(turned_at(cloth, turned)):
                return many
    return None


def is_right_mend(cloth, thing):
    if type(thing) is not tuple:
        return False
    for pair in thing:
        if type(pair) is not tuple or len(pair) != 2 or not all(is_true_int(number) for number in pair):
            return False
        if pair not in crossings(cloth):
            return False
    return is_sorted(thing) and do_all_lead(turned_at(cloth, thing))


def is_right_lot(cloth, thing):
    if type(thing) is not tuple or not thing:
        return False
    for strand in thing:
        if type(strand) is not tuple or len(strand) != 2 or type(strand[0]) is not str or type(strand[1]) is not int:
            return False
        if strand not in strands(cloth):
            return False
    outside = set(strands(cloth)) - set(thing)
    ways = {is_over(cloth, one, other) for one in thing for other in outside if one[0] != other[0]}
    return is_sorted(thing) and len(outside) > 0 and len(ways) == 1


def told_border(cloth, lot):
    return {(pick, end) for pick, end in crossings(cloth) if (("pick", pick) in lot) != (("end", end) in lot)}


def is_right_paper(cloth, thing):
    if type(thing) is not tuple or len(thing) != 3 or thing[0] != "mend" or type(thing[0]) is not str:
        return False
    if not is_right_mend(cloth, thing[1]) or type(thing[2]) is not tuple or len(thing[2]) != len(thing[1]):
        return False
    if not all(is_right_lot(cloth, lot) for lot in thing[2]):
        return False
    return all(not told_border(cloth, one) & told_border(cloth, other) for one, other in itertools.combinations(thing[2], 2))


def all_lots(cloth):
    row = strands(cloth)
    return [lot for many in range(1, len(row)) for lot in itertools.combinations(row, many) if is_right_lot(cloth, lot)]


class MendsTest(unittest.TestCase):

    def test_examples(self):
        self.assertEqual(fewest_turns(FULL), 2)
        self.assertIs(is_mend(FULL, ((0, 0), (1, 1))), True)
        self.assertIs(is_mend(FULL, ((0, 0), (0, 1))), False)
        self.assertIs(mend_holds(FULL, ("mend", ((0, 0), (1, 1)), ((E0,), (E1,)))), True)
        self.assertEqual(fewest_turns(SIDE), 2)
        self.assertIs(is_mend(SIDE, ((0, 0), (0, 1))), True)
        self.assertEqual(fewest_turns(PLAIN_CLOTH), 0)
        self.assertEqual(judge_mend(PLAIN_CLOTH), ("mend", (), ()))
        self.assertIsNone(fewest_turns(Cloth(("x-x",))))
        self.assertEqual(fewest_turns(STEPS), 2)
        self.assertIs(is_mend(STEPS, ((0, 0), (1, 0))), True)

    def test_without_a_mend(self):
        for cloth in (Cloth(("x",)), Cloth(("x-x",)), Cloth(("x", "-", "x")), Cloth(("-" * 12,)), Cloth(("x",) * 12)):
            for call in (fewest_turns, mend, mended, judge_mend):
                self.assertIsNone(call(cloth))
            self.assertIs(is_mend(cloth, ()), False)
            self.assertIs(mend_holds(cloth, ("mend", (), ())), False)
            for many in range(4):
                for turned in itertools.combinations(crossings(cloth), many):
                    self.assertIs(is_mend(cloth, turned), False)

    def test_all_sets_of_crossings(self):
        for picks, ends in ((2, 2), (2, 3), (3, 2), (2, 4), (4, 2), (3, 3)):
            cloths = all_cloths(picks, ends)
            if len(cloths) > 300:
                cloths = random.Random(880).sample(cloths, 150)
            for cloth in cloths:
                many = told_fewest(cloth)
                self.assertEqual(fewest_turns(cloth), many)
                found = mend(cloth)
                self.assertEqual(len(found), many)
                self.assertTrue(is_right_mend(cloth, found))
                self.assertIs(is_mend(cloth, found), True)
                other = mended(cloth)
                self.assertTrue(do_all_lead(other))
                unlike = [(pick, end) for pick, end in crossings(cloth) if other.picks[pick][end] != cloth.picks[pick][end]]
                self.assertEqual(len(unlike), many)
                paper = judge_mend(cloth)
                self.assertTrue(is_right_paper(cloth, paper))
                self.assertIs(mend_holds(cloth, paper), True)

    def test_all_small_cloths(self):
        # The papers show by themselves that the mends are fewest.
        for picks, ends in ((2, 5), (5, 2), (3, 3), (3, 4), (4, 3)):
            for cloth in all_cloths(picks, ends):
                paper = judge_mend(cloth)
                self.assertIs(mend_holds(cloth, paper), True, cloth.picks)
                self.assertEqual(fewest_turns(cloth), len(paper[1]))

    def test_is_mend(self):
        rng = random.Random(881)
        told = {True: 0, False: 0}
        for _ in range(400):
            cloth = random_cloth(rng, 4, 4)
            turned = tuple(pair for pair in crossings(cloth) if rng.random() < 0.3)
            right = do_all_lead(turned_at(cloth, turned))
            self.assertIs(is_mend(cloth=cloth, thing=turned), right)
            told[right] += 1
            if len(turned) > 1:
                self.assertIs(is_mend(cloth, turned[::-1]), False)
                self.assertIs(is_mend(cloth, list(turned)), False)
                self.assertIs(is_mend(cloth, (turned[0], *turned)), False)
        self.assertGreater(min(told.values()), 15)

    def test_top_and_bottom(self):
        # Levels that do not cross: all ends at the top and at the bottom, then all picks.
        for cloth, many in ((SIDE, 2), (Cloth(("xx-", "xx-")), 3), (Cloth(("xxx--", "xxx--")), 5), (Cloth(("xx", "--")), 2),
                            (Cloth(("xx", "--", "--")), 3), (Cloth(("x-x-", "xx--")), 2), (Cloth(("xx-", "x--")), 2)):
            levels = levels_of(cloth)
            self.assertEqual(len({strand[0] for strand in (*levels[0], *levels[-1])}), 1)
            self.assertEqual(fewest_turns(cloth), many)
            self.assertEqual(told_fewest(cloth), many)
            self.assertIs(mend_holds(cloth, judge_mend(cloth)), True)
        # Levels that cross: ends at the top and picks at the bottom; parts with ends and picks at one of both, or both.
        for cloth, many in ((Cloth(("xxx", "xxx")), 3), (Cloth(("xx", "xx", "xx")), 3), (Cloth(("---", "---")), 3),
                            (Cloth(("x-x", "-xx")), 1), (Cloth(("x-", "-x", "xx")), 1), (Cloth(("x-xx", "-xxx")), 2),
                            (Cloth(("x---", "-x--", "xxx-", "xx-x")), 1)):
            self.assertEqual(fewest_turns(cloth), many, cloth.picks)
            self.assertEqual(told_fewest(cloth), many)
            self.assertIs(mend_holds(cloth, judge_mend(cloth)), True)

    def test_two_parts(self):
        # Two cloths one above the other: one crossing between both is turned.
        for high in range(2, 7):
            rows = ["".join("x" if (i + j) % 2 else "-" for j in range(6)) + "-" * 6 for i in range(high)]
            rows += ["x" * 6 + "".join("x" if (i + j) % 2 else "-" for j in range(6)) for i in range(high)]
            cloth = Cloth(tuple(rows))
            self.assertEqual(len(levels_of(cloth)), 2)
            self.assertEqual(fewest_turns(cloth=cloth), 1)
            self.assertIs(mend_holds(cloth, judge_mend(cloth=cloth)), True)


class LotsTest(unittest.TestCase):

    def test_free_lots(self):
        rng = random.Random(882)
        for cloth in [FULL, SIDE, STEPS, PLAIN_CLOTH, *[random_cloth(rng, 3, 3) for _ in range(20)]]:
            row = strands(cloth)
            for many in range(len(row) + 1):
                for lot in itertools.combinations(row, many):
                    right = is_right_lot(cloth, lot)
                    self.assertIs(is_free_lot(cloth, lot), right)
                    if right:
                        self.assertEqual(border(cloth=cloth, lot=lot), tuple(sorted(told_border(cloth, lot))))
                        self.assertGreater(len(border(cloth, lot)), 0)
                        self.assertIs(is_free_lot(cloth, lot[::-1]), len(lot) == 1)

    def test_kinds_of_lots(self):
        self.assertIs(is_free_lot(STEPS, (E0,)), True)
        self.assertIs(is_free_lot(STEPS, (P0,)), True)
        self.assertIs(is_free_lot(STEPS, (P0, P1)), True)
        self.assertIs(is_free_lot(STEPS, (E1,)), False)
        self.assertIs(is_free_lot(STEPS, (E1, E2, P0, P1)), True)
        self.assertIs(is_free_lot(STEPS, (E1, E2, P0)), False)
        self.assertIs(is_free_lot(STEPS, (E0, P2)), True)
        self.assertIs(is_free_lot(PLAIN_CLOTH, (E0, E1)), False)
        self.assertIs(is_free_lot(FULL, (E0, E1)), True)
        self.assertEqual(border(STEPS, (E0, P2)), ((0, 0), (1, 0), (2, 1), (2, 2)))
        self.assertEqual(border(FULL, (E0, E1, P0)), ((1, 0), (1, 1)))

    def test_every_mend_crosses_every_border(self):
        rng = random.Random(883)
        for _ in range(30):
            cloth = random_cloth(rng, 3, 3)
            lots = all_lots(cloth)
            for many in range(4):
                for turned in itertools.combinations(crossings(cloth), many):
                    if is_mend(cloth, turned):
                        self.assertTrue(all(set(turned) & set(border(cloth, lot)) for lot in lots))

    def test_any_lots(self):
        for cloth in (FULL, STEPS, Cloth(("x",)), Cloth(("x-x",))):
            for value in some_values(884, 200):
                self.assertIs(is_free_lot(cloth, value), is_right_lot(cloth, value), value)
            for lot in all_lots(cloth)[:6]:
                for value in [*all_changed(lot), *changed_values(885, lot, 30)]:
                    self.assertIs(is_free_lot(cloth=cloth, thing=value), is_right_lot(cloth, value), value)


class PapersTest(unittest.TestCase):

    def test_other_fewest_mends(self):
        rng = random.Random(886)
        many = 0
        for cloth in [FULL, SIDE, STEPS, *[random_cloth(rng, 3, 3) for _ in range(25)]]:
            if fewest_turns(cloth) is None or fewest_turns(cloth) > 2:
                continue
            lots = all_lots(cloth)
            for turned in itertools.combinations(crossings(cloth), fewest_turns(cloth)):
                for row in itertools.permutations(lots, len(turned)):
                    thing = ("mend", turned, row)
                    right = is_right_paper(cloth, thing)
                    self.assertIs(mend_holds(cloth, thing), right)
                    many += right
        self.assertGreater(many, 100)

    def test_lots_in_any_order(self):
        for cloth in (FULL, STEPS, Cloth(("xxx--", "xxx--")), Cloth(("xx", "--", "--"))):
            _, turned, lots = judge_mend(cloth)
            for row in itertools.permutations(lots):
                self.assertIs(mend_holds(cloth, ("mend", turned, row)), True)
            self.assertIs(mend_holds(cloth, ("mend", turned, lots[:-1])), False)
            self.assertIs(mend_holds(cloth, ("mend", turned, (*lots, lots[0]))), False)
            self.assertIs(mend_holds(cloth, ("mend", turned, (*lots[:-1], lots[0]))), False)
            self.assertIs(mend_holds(cloth, ("mend", turned[:-1], lots[:-1])), False)
            self.assertIs(mend_holds(cloth, ("mend", (), ())), False)
        # A longer mend has no paper, though lots with unlike borders may be found for fewer crossings.
        self.assertIs(is_mend(STEPS, ((0, 0), (0, 1), (1, 0))), True)
        self.assertFalse(any(mend_holds(STEPS, ("mend", ((0, 0), (0, 1), (1, 0)), row)) for row in itertools.combinations(all_lots(STEPS), 3)))

    def test_any_and_changed_papers(self):
        rng = random.Random(887)
        cloths = [FULL, SIDE, PLAIN_CLOTH, Cloth(("x-x",)), STEPS]
        for cloth in cloths:
            for value in some_values(888, 150):
                self.assertIs(mend_holds(cloth, value), is_right_paper(cloth, value), value)
                self.assertIs(is_mend(cloth, value), is_right_mend(cloth, value), value)
        for seed, cloth in enumerate([*cloths, *[random_cloth(rng, 3, 4) for _ in range(12)]]):
            paper = judge_mend(cloth)
            for value in [*all_changed(paper), *changed_values(seed, paper, 60)]:
                self.assertIs(mend_holds(cloth=cloth, thing=value), is_right_paper(cloth, value), value)

    def test_sizes_at_the_limits(self):
        rng = random.Random(889)
        for share in (0.02, 0.1, 0.3, 0.5, 0.7, 0.9, 0.98):
            for _ in range(6):
                cloth = Cloth(tuple("".join("x" if rng.random() < share else "-" for _ in range(12)) for _ in range(12)))
                paper = judge_mend(cloth)
                self.assertIs(mend_holds(cloth, paper), True)
                self.assertEqual(len(paper[1]), fewest_turns(cloth))
                self.assertIs(does_hold(mended(cloth)), True)
        for cloth, many in ((Cloth(("x" * 12,) * 12), 12), (Cloth(("-" * 12,) * 2), 12), (Cloth(("x" * 6 + "-" * 6,) * 12), 12),
                            (Cloth(("x" * 11 + "-",) * 12), 12), (Cloth(("xx",) * 12), 12)):
            self.assertEqual(fewest_turns(cloth), many)
            self.assertIs(mend_holds(cloth, judge_mend(cloth)), True)
        # Stairs: each strand but the first and the last lies over some and below others, and nothing comes back.
        stairs = Cloth(tuple("".join("x" if j <= i else "-" for j in range(12)) for i in range(12)))
        self.assertEqual(len(levels_of(stairs)), 24)
        self.assertEqual(fewest_turns(stairs), 1)

    def test_the_same_again(self):
        for call in (fewest_turns, mend, mended, judge_mend):
            self.assertEqual(call(STEPS), call(Cloth(STEPS.picks)))
        self.assertEqual(STEPS.picks, ("xxx", "xxx", "x--"))


if __name__ == "__main__":
    unittest.main()
