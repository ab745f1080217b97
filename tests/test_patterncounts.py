"""Groups of turns, kinds of cloths and periods: point 45."""

import itertools
import random
import unittest

from loomhold.cloths import Cloth
from loomhold.motions import behind
from loomhold.patterncounts import group_of, is_group, number_of_kinds, representatives, with_periods
from loomhold.patterns import ground
from tests.helpers import all_changed, changed_values, some_values
from tests.test_motions import TURNS, led_sign


def is_closed(turns):
    return "" in turns and all(behind((one, 0, 0), (other, 0, 0))[0] in turns for one in turns for other in turns)


def told_group(turns):
    """The least of all closed sets with these turns, told by adding what is missing."""
    group = {"", *turns}
    while not is_closed(group):
        group |= {behind((one, 0, 0), (other, 0, 0))[0] for one in group for other in group}
    return tuple(sorted(group))


GROUPS = sorted({told_group(turns) for many in range(4) for turns in itertools.combinations(TURNS, many)})


def all_cloths(picks, ends):
    rows = ["".join(row) for row in itertools.product("-x", repeat=ends)]
    return list(itertools.product(rows, repeat=picks))


def told_kinds(picks, ends, turns):
    """The list of the sets of the tuples of picks of each kind, all motions being tried."""
    kinds = []
    left = set(all_cloths(picks, ends))
    while left:
        cloth = Cloth(min(left))
        kind = set()
        for turn in turns:
            for down in range(picks):
                for across in range(ends):
                    kind.add(tuple("".join(led_sign(cloth, (turn, down, across), i, j) for j in range(ends)) for i in range(picks)))
        kinds.append(kind)
        left -= kind
    return kinds


def is_right_group(thing):
    if type(thing) is not tuple or not all(type(turn) is str and turn in TURNS for turn in thing):
        return False
    return list(thing) == sorted(set(thing)) and is_closed(thing)


class GroupsTest(unittest.TestCase):

    def test_examples(self):
        self.assertEqual(group_of(("es", "ps")), ("", "ep", "es", "ps"))

    def test_groups(self):
        rng = random.Random(830)
        for _ in range(150):
            turns = tuple(rng.choice(TURNS) for _ in range(rng.randrange(4)))
            found = group_of(turns)
            self.assertEqual(found, told_group(turns))
            self.assertIs(is_group(found), True)
        self.assertEqual(group_of(turns=()), ("",))
        self.assertEqual(group_of(("",)), ("",))
        self.assertEqual(group_of(("s", "s")), ("", "s"))
        self.assertEqual(group_of(("w", "e", "s")), tuple(TURNS))
        self.assertEqual(group_of(("ew",)), ("", "ep", "ew", "pw"))
        self.assertEqual(group_of(TURNS[::-1]), tuple(TURNS))

    def test_the_least_one(self):
        for turns in itertools.combinations(TURNS, 2):
            found = set(group_of(turns))
            self.assertTrue(all(found <= set(group) for group in GROUPS if set(turns) <= set(group)))

    def test_any_values(self):
        for value in some_values(831, 300):
            self.assertIs(is_group(value), is_right_group(value), value)
        for group in GROUPS:
            self.assertIs(is_group(thing=group), True)
            for value in [*all_changed(group), *changed_values(832, group, 30)]:
                self.assertIs(is_group(value), is_right_group(value), value)
        for thing in ((), ("s",), ("", "ew"), ("e", ""), ("", "", "e"), ["", "e"], ("", "e", "p"), ("", "e", "w"), ("", "we"), ("", None)):
            self.assertIs(is_group(thing), False)
        for many in range(4):
            for turns in itertools.combinations(TURNS, many):
                self.assertIs(is_group(turns), is_closed(turns))


class KindsTest(unittest.TestCase):

    def test_examples(self):
        self.assertEqual(number_of_kinds(2, 2, ("",)), 7)
        self.assertEqual(number_of_kinds(2, 2, ("", "s")), 5)
        self.assertEqual(representatives(1, 2, ("",)), (("--",), ("-x",), ("xx",)))
        self.assertEqual(with_periods(2, 2), 10)
        self.assertEqual(with_periods(1, 2), 2)

    def test_all_cloths(self):
        sizes = [(1, 1), (1, 2), (2, 1), (1, 3), (3, 1), (2, 2), (2, 3), (3, 2), (1, 5), (4, 1), (2, 4)]
        for picks, ends in sizes:
            for group in GROUPS:
                if picks != ends and any("w" in turn for turn in group):
                    continue
                kinds = told_kinds(picks, ends, group)
                self.assertEqual(number_of_kinds(picks, ends, group), len(kinds), (picks, ends, group))
                self.assertEqual(representatives(picks, ends, group), tuple(sorted(min(kind) for kind in kinds)))

    def test_three_by_three(self):
        for group in (("",), ("", "s"), ("", "sw"), ("", "w"), group_of(("ew",)), tuple(TURNS)):
            kinds = told_kinds(3, 3, group)
            self.assertEqual(number_of_kinds(picks=3, ends=3, turns=group), len(kinds))
            self.assertEqual(representatives(picks=3, ends=3, turns=group), tuple(sorted(min(kind) for kind in kinds)))

    def test_nine_crossings(self):
        for picks, ends, group in ((1, 9, ("", "e")), (9, 1, ("", "p", "ps", "s")), (3, 3, tuple(TURNS)), (1, 9, ("",)), (4, 2, ("", "ep"))):
            self.assertEqual(len(representatives(picks, ends, group)), number_of_kinds(picks, ends, group))

    def test_known_numbers(self):
        # Necklaces, and bracelets, of two colours.
        self.assertEqual([number_of_kinds(1, n, ("",)) for n in range(1, 13)], [2, 3, 4, 6, 8, 14, 20, 36, 60, 108, 188, 352])
        self.assertEqual([number_of_kinds(n, 1, ("", "p")) for n in range(1, 7)], [2, 3, 4, 6, 8, 13])
        # Tori of so many crossings each way.
        self.assertEqual([number_of_kinds(n, n, ("",)) for n in range(1, 6)], [2, 7, 64, 4156, 1342208])

    def test_sizes_at_the_limits(self):
        great = number_of_kinds(12, 12, ("",))
        self.assertGreater(great * 144, 2 ** 144)
        self.assertLess(great * 144, 2 ** 144 + 2 ** 80)
        for group in (("", "s"), ("", "e", "p", "ep")[:2], tuple(TURNS), group_of(("ew", "s"))):
            many = number_of_kinds(6, 6, group)
            self.assertGreaterEqual(many * 36 * len(group), 2 ** 36)
            self.assertLess(many * 36 * len(group), 2 ** 37)
        self.assertEqual(number_of_kinds(5, 6, ("", "e")), number_of_kinds(6, 5, ("", "p")))

    def test_odd_rings(self):
        # Where an odd ring has its signs exchanged no cloth is kept: of 2 cloths there is one kind.
        self.assertEqual(number_of_kinds(1, 1, ("", "s")), 1)
        self.assertEqual(number_of_kinds(1, 1, ("", "w")), 1)
        self.assertEqual(number_of_kinds(1, 1, ("", "sw")), 2)
        self.assertEqual(number_of_kinds(3, 3, ("", "s")), 32)


class PeriodsTest(unittest.TestCase):

    def test_all_cloths(self):
        for picks, ends in ((1, 1), (1, 2), (2, 1), (2, 2), (1, 4), (4, 1), (2, 3), (3, 2), (3, 3), (2, 4), (4, 2), (1, 6), (2, 5), (4, 3)):
            told = 0
            for row in all_cloths(picks, ends):
                own = ground(Cloth(row))
                told += (len(own), own.ends) == (picks, ends)
            self.assertEqual(with_periods(picks, ends), told)

    def test_sums(self):
        # Each cloth of a size has just one pair of periods.
        for picks, ends in ((12, 12), (12, 8), (6, 10), (1, 12), (12, 1), (7, 11)):
            total = sum(with_periods(picks=p, ends=q) for p in range(1, picks + 1) for q in range(1, ends + 1)
                        if picks % p == 0 and ends % q == 0)
            self.assertEqual(total, 2 ** (picks * ends))
        self.assertEqual(with_periods(1, 12), 4020)


if __name__ == "__main__":
    unittest.main()
