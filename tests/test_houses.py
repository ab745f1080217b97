"""Houses: point 64."""

import random
import re
import time
import unittest

from loomhold.charts import Chart
from loomhold.errors import (
    BadName, BadPart, BadPromise, BadRoll, Broken, LoomError, NoName, NotOfChart, NothingToRedo, NothingToUndo, OtherPicture)
from loomhold.houses import House
from loomhold.looms import Loom
from loomhold.scripts import chart_of
from tests.helpers import LOOSE, PLAIN, fits, raised, some_values
from tests.test_holding import ANY, ONCE
from tests.test_rolls import MOST, is_right_roll, nested, written_out
from tests.test_shelves import EVEN, is_right_broken_paper, is_right_promise, lets, told_kept, told_other

SAME = Loom(4, (0, 1, 2, 3), ((0, 2), (1, 3)))
WIDER = Loom(4, (0, 1, 2, 3), ((0, 2), (1, 3), (0, 1), ()))
BELOW = PLAIN.with_lift("a", (0, 1))
FALLS = chart_of("ab(ab)*[|aa]", "ab")
LOOMS = [PLAIN, SAME, WIDER, BELOW, LOOSE, PLAIN.threaded((0, 1, 0)), Loom(2, (0, 1, 0, 1), ((0,),))]
CHARTS = [EVEN, ANY, FALLS, chart_of("(ab)*", "ab"), chart_of("ab([a|b])*", "ab"), ONCE, chart_of("", "a"), Chart("abz", 1, (), ())]
PROMISES = [("holds",), ("from", 0), ("from", 1), ("from", 2), ("grip", 2), ("grip", 1), ("grip", 3), ("floats", 1), ("floats", 2)]
ROLLS = [("ab",), ("ab", (MOST, ("ab",))), (), ("abaa",), ("abab", (0, ("b",))), ((2, ("ab", (3, ("ab",)))),), ("aab",), ("ba",),
         nested(12, ("ab",)), ((0, ("c",)), "ab"), ("cab",)]


def settled(house):
    """All that a house tells."""
    return tuple((name, tuple((str(loom), str(chart)) for loom, chart in house.editions(name)), house.promises(name), house.log(name))
                 for name in house.names)


def small(house_of=House):
    """A house with the shelf t of the document."""
    house = house_of()
    house.found("t", PLAIN, EVEN, (("holds",), ("grip", 2)))
    return house


class Model:
    """A house told slowly: all states are kept, and each gate is asked of rolls that are written out."""

    def __init__(self):
        self.rows = [{}]
        self.at = 0

    @property
    def now(self):
        return self.rows[self.at]

    def change(self, name, shelf):
        further = dict(self.now)
        if shelf is None:
            del further[name]
        else:
            further[name] = shelf
        self.rows = [*self.rows[:self.at + 1], further]
        self.at += 1

    def expect(self, word, *things):
        """The class of the error that a change raises, or None, the change being made then."""
        if word == "undo":
            if self.at == 0:
                return NothingToUndo
            self.at -= 1
            return None
        if word == "redo":
            if self.at == len(self.rows) - 1:
                return NothingToRedo
            self.at += 1
            return None
        name, things = things[0], things[1:]
        if word == "found":
            return self.found(name, *things)
        if name not in self.now:
            return NoName
        editions, promises, log = self.now[name]
        loom, chart = editions[-1]
        if word == "drop":
            self.change(name, None)
        elif word == "add_promise":
            if not is_right_promise(things[0]):
                return BadPromise
            if not told_kept(loom, chart, things[0]):
                return Broken
            self.change(name, (editions, (*promises, things[0]), log))
        elif word == "bring":
            if not fits(*things):
                return BadPart
            if not all(told_kept(*things, promise) for promise in promises):
                return Broken
            if self.other(loom, things[0], log) is not None:
                return OtherPicture
            self.change(name, ((*editions, things), promises, log))
        elif word == "weave":
            if not is_right_roll(loom.letters, things[0]):
                return BadRoll
            if not lets(chart, short(things[0])):
                return NotOfChart
            self.change(name, (editions, promises, (*log, things[0])))
        return None

    def other(self, loom, further, log):
        return told_other(loom, further, [(short(roll),) if short(roll) else () for roll in log])

    def found(self, name, loom, chart, promises):
        if not (1 <= len(name) <= 8 and name.isalpha() and name.islower()) or name in self.now:
            return BadName
        if not fits(loom, chart):
            return BadPart
        if not all(is_right_promise(promise) for promise in promises):
            return BadPromise
        if not all(told_kept(loom, chart, promise) for promise in promises):
            return Broken
        self.change(name, (((loom, chart),), promises, ()))
        return None

    def settled(self):
        return tuple((name, tuple((str(loom), str(chart)) for loom, chart in self.now[name][0]), *self.now[name][1:]) for name in sorted(self.now))


def short(roll):
    """A treadling that every chart here takes just if it takes that of the roll: great times are made small."""
    if isinstance(roll, str):
        return roll
    return "".join(item if isinstance(item, str) else short(item[1]) * (item[0] if item[0] < 60 else 12 + item[0] % 12) for item in roll)


def random_change(rng):
    """The word of a change, with what it is given."""
    word = rng.choice(["found", "found", "add_promise", "bring", "bring", "weave", "weave", "weave", "drop", "undo", "undo", "redo"])
    if word in ("undo", "redo"):
        return (word,)
    name = rng.choice(["t", "u", "loom", "eightlet", "ninelette"])
    if word == "drop":
        return (word, name)
    if word == "add_promise":
        return (word, name, rng.choice([*PROMISES, ("grip", 0)]))
    if word == "weave":
        return (word, name, rng.choice(ROLLS))
    loom, chart = rng.choice([*LOOMS, PLAIN, SAME]), rng.choice([*CHARTS, EVEN, EVEN, EVEN])
    if word == "bring":
        return (word, name, loom, chart)
    return (word, name, loom, chart, tuple(rng.choice(PROMISES) for _ in range(rng.choice([0, 0, 1, 2]))))


class HouseTest(unittest.TestCase):

    def test_examples(self):
        house = small()
        self.assertEqual(house.weave("t", ("ab", (10 ** 30, ("ab",)))), 0)
        self.assertEqual(raised(self, NotOfChart, house.weave, "t", ("aab",)).roll, ("aab",))
        house.add_promise("t", ("floats", 1))
        self.assertEqual(house.promises("t"), (("holds",), ("grip", 2), ("floats", 1)))
        error = raised(self, Broken, house.bring, "t", PLAIN, ANY)
        self.assertEqual(error.promise, ("holds",))
        self.assertTrue(is_right_broken_paper(PLAIN, ANY, ("holds",), error.paper))
        error = raised(self, Broken, house.bring, "t", BELOW, EVEN)
        self.assertTrue(is_right_broken_paper(BELOW, EVEN, ("holds",), error.paper))
        self.assertIsNone(house.bring("t", SAME, EVEN))
        self.assertEqual(house.loom_now("t"), SAME)

    def test_what_is_told(self):
        house = House()
        self.assertEqual((house.names, len(house)), ((), 0))
        self.assertIs("t" in house, False)
        self.assertIsNone(house.found("u", PLAIN, EVEN))
        self.assertIsNone(house.found(name="t", loom=LOOSE, chart=ANY, promises=()))
        self.assertEqual((house.names, len(house)), (("t", "u"), 2))
        self.assertIs("t" in house, True)
        self.assertEqual(house.editions("u"), ((PLAIN, EVEN),))
        self.assertEqual((house.loom_now("t"), house.chart_now("t")), (LOOSE, ANY))
        self.assertEqual((house.promises("t"), house.log("t")), ((), ()))
        self.assertIsNone(house.bring(name="u", loom=WIDER, chart=ANY))
        self.assertEqual(house.editions(name="u"), ((PLAIN, EVEN), (WIDER, ANY)))
        self.assertEqual((house.loom_now(name="u"), house.chart_now(name="u")), (WIDER, ANY))
        self.assertEqual([house.weave(name="u", roll=roll) for roll in ((), ("b",), ("b",))], [0, 1, 2])
        self.assertEqual(house.log(name="u"), ((), ("b",), ("b",)))
        house.found("v", PLAIN, EVEN)
        self.assertIsNone(house.add_promise(name="v", promise=("holds",)))
        self.assertEqual((house.promises(name="u"), house.promises(name="v")), ((), (("holds",),)))
        house.drop("v")
        self.assertIsNone(house.drop(name="t"))
        self.assertEqual(house.names, ("u",))
        for value in some_values(970, 100):
            self.assertIs(value in house, value == "u" and type(value) is str)

    def test_no_name(self):
        house = small()
        calls = [(house.editions, ()), (house.promises, ()), (house.log, ()), (house.loom_now, ()), (house.chart_now, ()),
                 (house.add_promise, (None,)), (house.bring, (None, None)), (house.weave, (None,)), (house.drop, ())]
        for value in [*some_values(971, 60), "u", "T", "t ", "tt", ["t"], ("t",)]:
            for call, things in calls:
                self.assertIs(raised(self, NoName, call, value, *things).name, value)
        self.assertEqual(len(house), 1)

    def test_names(self):
        house = House()
        for name in ("a", "abcdefgh", "zzzzzzzz", "t"):
            house.found(name, PLAIN, EVEN)
        before = settled(house)
        for name in ("", "abcdefghi", "A", "a b", "a1", "a\n", "t", "-", None, 0, True, ["t"], ("t",), PLAIN, "\u00e4", *some_values(972, 60)):
            if type(name) is str and re.fullmatch("[a-z]{1,8}", name) and name not in house:
                self.assertEqual(raised(self, BadPart, house.found, name, None, None, None).part, "loom")
            else:
                self.assertIs(raised(self, BadName, house.found, name, None, None, None).name, name)
        self.assertEqual(settled(house), before)

    def test_errors_of_found_in_their_order(self):
        house = House()
        self.assertEqual(raised(self, BadPart, house.found, "t", None, None, None).part, "loom")
        self.assertEqual(raised(self, BadPart, house.found, "t", PLAIN, None, None).part, "chart")
        self.assertEqual(raised(self, BadPart, house.found, "t", PLAIN, ONCE, None).part, "chart")
        for value in some_values(973, 60):
            if type(value) is not Loom:
                self.assertEqual(raised(self, BadPart, house.found, "t", value, EVEN).part, "loom")
            if type(value) is not Chart:
                self.assertEqual(raised(self, BadPart, house.found, "t", PLAIN, value).part, "chart")
            if type(value) is not tuple:
                self.assertIs(raised(self, BadPromise, house.found, "t", PLAIN, ANY, value).thing, value)
            if not is_right_promise(value):
                self.assertIs(raised(self, BadPromise, house.found, "t", PLAIN, ANY, (("holds",), value, None)).thing, value)
        for promises, first in (((("grip", 2), ("holds",)), ("grip", 2)), ((("floats", 5), ("grip", 2)), ("floats", 5)), ((("from", 3),), ("from", 3))):
            error = raised(self, Broken, house.found, "t", PLAIN, ANY, promises)
            self.assertEqual(error.promise, first)
            self.assertTrue(is_right_broken_paper(PLAIN, ANY, first, error.paper))
        self.assertEqual(raised(self, Broken, house.found, "t", PLAIN, EVEN, (("holds",), ("grip", 1))).promise, ("grip", 1))
        self.assertEqual(settled(house), ())
        self.assertEqual(raised(self, NothingToUndo, house.undo).args, ())
        house.found("t", PLAIN, EVEN, tuple(PROMISES[:5]))
        self.assertEqual(house.promises("t"), tuple(PROMISES[:5]))

    def test_promises(self):
        house = small()
        house.add_promise("t", ("grip", 2))
        self.assertEqual(house.promises("t"), (("holds",), ("grip", 2), ("grip", 2)))
        before = settled(house)
        for value in some_values(974, 80):
            if not is_right_promise(value):
                self.assertIs(raised(self, BadPromise, house.add_promise, "t", value).thing, value)
        error = raised(self, Broken, house.add_promise, "t", ("grip", 1))
        self.assertEqual(error.promise, ("grip", 1))
        self.assertTrue(is_right_broken_paper(PLAIN, EVEN, ("grip", 1), error.paper))
        self.assertEqual(settled(house), before)
        # It is asked of the edition in use alone.
        house.found("u", PLAIN, EVEN)
        house.bring("u", PLAIN, ANY)
        self.assertEqual(raised(self, Broken, house.add_promise, "u", ("holds",)).promise, ("holds",))
        house.bring("u", PLAIN, EVEN)
        house.add_promise("u", ("holds",))
        house.found("v", PLAIN, EVEN)
        house.bring("v", BELOW, EVEN)
        self.assertTrue(is_right_broken_paper(BELOW, EVEN, ("holds",), raised(self, Broken, house.add_promise, "v", ("holds",)).paper))

    def test_errors_of_bring_in_their_order(self):
        house = small()
        house.weave("t", ("ab",))
        before = settled(house)
        for value in some_values(975, 60):
            if type(value) is not Loom:
                self.assertEqual(raised(self, BadPart, house.bring, "t", value, None).part, "loom")
            if type(value) is not Chart:
                self.assertEqual(raised(self, BadPart, house.bring, "t", PLAIN, value).part, "chart")
        self.assertEqual(raised(self, BadPart, house.bring, "t", PLAIN, ONCE).part, "chart")
        # A broken promise goes ahead of another picture.
        self.assertEqual(raised(self, Broken, house.bring, "t", BELOW, EVEN).promise, ("holds",))
        self.assertEqual(raised(self, Broken, house.bring, "t", LOOSE, chart_of("aab", "ab")).promise, ("grip", 2))
        self.assertEqual(raised(self, OtherPicture, house.bring, "t", LOOSE, EVEN).place, 0)
        self.assertEqual(settled(house), before)

    def test_the_gate(self):
        house = House()
        house.found("t", WIDER, chart_of("([a|b|c|d])*", "abcd"))
        for roll in ((), ((MOST, ()),), ("ab", (0, ("cd",))), ((MOST, ("ab",)), "b"), ("c",)):
            house.weave("t", roll)
        before = settled(house)
        for loom, place in ((WIDER.with_lift("a", (0, 1)), 2), (WIDER.with_lift("c", (0, 2)), 4), (WIDER.with_lift("d", (0, 1, 2, 3)), None),
                            (PLAIN, 4), (SAME, 4), (Loom(2, (0, 1, 0, 1), ((0,),)), 2), (LOOSE, 2), (Loom(1, (0,) * 4, ((),)), 2),
                            (Loom(5, (3, 3, 3, 3), ((3,),) * 26), 2), (WIDER.threaded((0, 1, 2)), 2)):
            chart = Chart(loom.letters, 1, ((0, "a", 0),), ())
            if place is None:
                house.bring("t", loom, chart)
                house.undo()
            else:
                self.assertEqual(raised(self, OtherPicture, house.bring, "t", loom, chart).place, place)
            self.assertEqual(settled(house), before)
        # Other numbers of shafts and treadles; the logged rolls need not be treadlings of the new chart.
        other = Loom(6, (5, 4, 3, 2), ((3, 5), (0, 2, 4), (4, 5)))
        house.bring("t", other, chart_of("a", "a"))
        self.assertEqual(house.loom_now("t"), other)
        # What is asked is the loom in use, not the one that a roll was woven on.
        self.assertIs(raised(self, NotOfChart, house.weave, "t", ("ab",)).roll[0], "ab")
        self.assertEqual(raised(self, BadRoll, house.weave, "t", ("d",)).thing, ("d",))
        self.assertEqual(raised(self, OtherPicture, house.bring, "t", other.with_lift("c", ()), EVEN).place, 4)

    def test_the_gate_asks_the_loom_in_use(self):
        house = House()
        house.found("t", PLAIN, ANY)
        house.bring("t", BELOW, ANY)
        house.weave("t", ("b",))
        house.weave("t", ("a",))
        self.assertEqual(raised(self, OtherPicture, house.bring, "t", PLAIN, ANY).place, 1)
        house.bring("t", WIDER.with_lift("a", (0, 1, 2, 3)), ONCE)
        house.weave("t", ("c",))
        self.assertEqual(raised(self, OtherPicture, house.bring, "t", BELOW, ANY).place, 2)

    def test_weaving(self):
        house = small()
        for value in some_values(976, 100):
            if not is_right_roll("ab", value):
                self.assertIs(raised(self, BadRoll, house.weave, "t", value).thing, value)
            elif not lets(EVEN, written_out(value)):
                self.assertIs(raised(self, NotOfChart, house.weave, "t", value).roll, value)
        for number, roll in enumerate((("ab",), ((MOST, ("ab",)),), nested(12, ("ab",)), ("ab",), ((0, ("b",)), "ab"))):
            self.assertEqual(house.weave("t", roll), number)
            self.assertIs(house.log("t")[number], roll)
        self.assertIs(raised(self, NotOfChart, house.weave, "t", ()).roll, ())

    def test_taking_back(self):
        house = small()
        steps = [settled(House()), settled(house)]
        house.weave("t", ("ab",))
        steps.append(settled(house))
        house.bring("t", SAME, EVEN)
        steps.append(settled(house))
        house.add_promise("t", ("from", 2))
        steps.append(settled(house))
        house.drop("t")
        steps.append(settled(house))
        house.found("t", PLAIN, ANY)
        steps.append(settled(house))
        for number in range(5, -1, -1):
            self.assertIsNone(house.undo())
            self.assertEqual(settled(house), steps[number])
        self.assertIs(type(raised(self, NothingToUndo, house.undo)), NothingToUndo)
        self.assertEqual(settled(house), ())
        for number in range(1, 7):
            self.assertIsNone(house.redo())
            self.assertEqual(settled(house), steps[number])
        raised(self, NothingToRedo, house.redo)
        self.assertEqual(settled(house), steps[6])
        # Behind another change nothing can be made again; what is refused is no change.
        house.undo()
        house.undo()
        self.assertEqual(house.log("t"), (("ab",),))
        raised(self, NotOfChart, house.weave, "t", ("aab",))
        raised(self, NoName, house.drop, "u")
        raised(self, Broken, house.bring, "t", PLAIN, ANY)
        house.redo()
        self.assertEqual(settled(house), steps[5])
        house.undo()
        house.weave("t", ("abab",))
        raised(self, NothingToRedo, house.redo)
        house.undo()
        self.assertEqual(settled(house), steps[4])

    def test_random_changes(self):
        rng = random.Random(977)
        seen = {}
        for _ in range(60):
            house, model = House(), Model()
            for _ in range(60):
                word, *things = random_change(rng)
                before = settled(house)
                error = model.expect(word, *things)
                seen[(word, error)] = seen.get((word, error), 0) + 1
                if error is None:
                    found = getattr(house, word)(*things)
                    self.assertEqual(found, len(house.log(things[0])) - 1 if word == "weave" else None)
                else:
                    told = raised(self, error, getattr(house, word), *things)
                    self.assertEqual(settled(house), before)
                    if error is Broken:
                        pair = things[1:3] if word != "add_promise" else house.editions(things[0])[-1]
                        self.assertTrue(is_right_broken_paper(*pair, told.promise, told.paper))
                    if error is OtherPicture:
                        self.assertEqual(told.place, model.other(house.loom_now(things[0]), things[1], house.log(things[0])))
                self.assertEqual(settled(house), model.settled())
        self.assertGreater(len(seen), 20)

    def test_two_houses(self):
        one, other = small(), small()
        one.weave("t", ("ab",))
        self.assertEqual(other.log("t"), ())
        raised(self, NothingToRedo, other.redo)
        other.undo()
        self.assertEqual((one.names, other.names), (("t",), ()))


class TriedTest(unittest.TestCase):

    def test_what_is_returned(self):
        house = small()
        self.assertEqual(house.tried(lambda given: (given is house, given.weave("t", ("ab",)), given.names)), (True, 0, ("t",)))
        self.assertIsNone(house.tried(action=lambda given: given.drop("t")))
        self.assertEqual(settled(house), settled(small()))

    def test_all_is_as_it_was(self):
        house = small()
        house.weave("t", ("ab",))
        house.weave("t", ("abab",))
        house.undo()
        before = settled(house)

        def action(given):
            given.redo()
            self.assertEqual(len(given.log("t")), 2)
            given.undo()
            given.undo()
            given.undo()
            self.assertEqual(given.names, ())
            given.found("u", PLAIN, ANY)
            raised(self, NothingToRedo, given.redo)
            return given.names

        self.assertEqual(house.tried(action), ("u",))
        self.assertEqual(settled(house), before)
        house.redo()
        self.assertEqual(house.log("t"), (("ab",), ("abab",)))
        house.undo()
        house.undo()
        house.undo()
        raised(self, NothingToUndo, house.undo)

    def test_ended_by_an_error(self):
        house = small()
        house.weave("t", ("ab",))
        house.undo()
        before = settled(house)

        def action(given):
            given.weave("t", ("abab",))
            given.drop("t")
            given.weave("t", ("ab",))

        self.assertEqual(raised(self, NoName, house.tried, action).name, "t")
        self.assertEqual(settled(house), before)
        error = ValueError("x")

        def other(given):
            given.drop("t")
            raise error

        with self.assertRaises(ValueError) as caught:
            house.tried(other)
        self.assertIs(caught.exception, error)
        self.assertEqual(settled(house), before)
        house.redo()
        self.assertEqual(house.log("t"), (("ab",),))

    def test_within_one_another(self):
        house = small()
        rows = []

        def inner(given):
            given.add_promise("t", ("from", 2))
            rows.append(given.promises("t"))
            raise NothingToUndo()

        def outer(given):
            given.weave("t", ("ab",))
            with self.assertRaises(NothingToUndo):
                given.tried(inner)
            rows.append(settled(given))
            given.undo()
            self.assertEqual(given.tried(lambda again: again.tried(lambda third: third.drop("t"))), None)
            rows.append(settled(given))
            given.redo()
            return len(given.log("t"))

        self.assertEqual(house.tried(outer), 1)
        self.assertEqual(rows[0], (("holds",), ("grip", 2), ("from", 2)))
        self.assertEqual(rows[1][0][3], (("ab",),))
        self.assertEqual(rows[2], settled(small()))
        self.assertEqual(settled(house), settled(small()))
        raised(self, NothingToRedo, house.redo)

    def test_nothing_to_undo_within(self):
        house = House()
        raised(self, NothingToUndo, house.tried, lambda given: given.undo())
        self.assertEqual(house.tried(lambda given: 5), 5)
        self.assertTrue(issubclass(NothingToUndo, LoomError))


class SizesTest(unittest.TestCase):

    def test_at_the_limits(self):
        start = time.process_time()
        house = House()
        chart = Chart("abcd", 6, tuple((s, x, (s * 5 + k + 1) % 6) for s in range(6) for k, x in enumerate("abcd")), (0, 3))
        loom = Loom(4, (0, 1, 2, 3) * 3, ((0, 1), (1, 2), (2, 3), (0, 3)))
        for name in ("a", "b", "c", "d", "e"):
            house.found(name, loom, chart)
        for _ in range(5):
            house.bring("a", loom, chart)
        even = chart_of("abcd(abcd)*", "abcd")
        house.found("f", loom, even)
        for _ in range(5):
            house.add_promise("f", ("holds",))
        for number in range(20):
            self.assertEqual(house.weave("f", ("abcd", (MOST, ("abcd" * 15,)))), number)
        for _ in range(5):
            house.bring("f", loom, even)
        self.assertEqual(len(house.editions("f")), 6)
        for _ in range(41):
            house.undo()
        raised(self, NothingToUndo, house.undo)
        for _ in range(41):
            house.redo()
        self.assertEqual(len(house.log("f")), 20)
        self.assertLess(time.process_time() - start, 20)


if __name__ == "__main__":
    unittest.main()
