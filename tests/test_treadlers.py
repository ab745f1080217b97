"""Treadlers: somebody at the treadles, points 31 to 35."""

import random
import unittest

from loomhold.errors import BadCall, BadWishes, NothingToUndo, Refused
from loomhold.looms import Loom
from loomhold.playpapers import can_keep, judge_play, play_holds
from loomhold.treadlers import Treadler, trodden_for
from tests.helpers import FIXED_VALUES, PLAIN, raised, some_values
from tests.test_floats import float_of
from tests.test_playpapers import SIX, SIX_WISHES, TWILL, are_right_wishes, random_play, told_behind


def state(treadler):
    """What the properties of a treadler tell."""
    return (treadler.calls_made, treadler.trodden, treadler.runs_now, len(treadler))


def some_treadlers(seed, many):
    """So many treadlers of looms and wishes that let numbers be kept."""
    rng = random.Random(seed)
    out = [Treadler(PLAIN, ("ab",), 1, 1), Treadler(TWILL, ("abc",), 0, 2), Treadler(SIX, SIX_WISHES, 1, 2),
           Treadler(SIX, SIX_WISHES, 0, 3)]
    while len(out) < many:
        loom, wishes, sight, number = random_play(rng)
        if can_keep(loom, wishes, sight, number):
            out.append(Treadler(loom, wishes, sight, number))
    return out


class TreadlerTest(unittest.TestCase):

    def test_example(self):
        treadler = Treadler(PLAIN, ("ab",), 1, 1)
        self.assertEqual(treadler.hear("ab"), "")
        letter = treadler.hear("ab")
        self.assertIn(letter, ("a", "b"))
        for turn in range(6):
            self.assertEqual(treadler.hear(call="ab"), "ba"[(turn + (letter == "b")) % 2])
        self.assertEqual(len(treadler), 8)

    def test_made(self):
        treadler = Treadler(loom=PLAIN, wishes=("ab",), sight=1, number=2)
        self.assertEqual((treadler.loom, treadler.wishes, treadler.sight, treadler.number), (PLAIN, ("ab",), 1, 2))
        self.assertEqual(state(treadler), ((), "", (0, 0), 0))

    def test_sights(self):
        for sight in (0, 1, 2):
            treadler = Treadler(PLAIN, ("ab",), sight, 1)
            for turn in range(6):
                # No letter is trodden as long as not more calls than the sight have been made.
                self.assertEqual(len(treadler.hear("ab")), 0 if turn < sight else 1)
                self.assertEqual(len(treadler.trodden), max(0, turn + 1 - sight))
                self.assertEqual(treadler.calls_made, ("ab",) * (turn + 1))

    def test_floats_are_kept(self):
        rng = random.Random(281)
        for treadler in some_treadlers(282, 40):
            runs = (0,) * len(treadler.loom.used)
            calls = []
            trodden = ""
            for _ in range(60):
                calls.append(rng.choice(treadler.wishes))
                letter = treadler.hear(calls[-1])
                if len(calls) > treadler.sight:
                    self.assertIn(letter, list(calls[len(trodden)]))
                    trodden += letter
                    runs = told_behind(treadler.loom, runs, letter)
                else:
                    self.assertEqual(letter, "")
                self.assertEqual(state(treadler), (tuple(calls), trodden, runs, len(calls)))
            self.assertLessEqual(float_of(treadler.loom, trodden), treadler.number)

    def test_one_plan(self):
        # The same runs and calls bring the same letter, and so does a treadler made anew.
        rng = random.Random(283)
        for treadler in some_treadlers(284, 25):
            letters = {}
            for _ in range(60):
                runs = treadler.runs_now
                letter = treadler.hear(rng.choice(treadler.wishes))
                if letter != "":
                    calls = treadler.calls_made[len(treadler.trodden) - 1:]
                    self.assertEqual(letters.setdefault((runs, calls), letter), letter)
            other = Treadler(treadler.loom, treadler.wishes, treadler.sight, treadler.number)
            for call in treadler.calls_made:
                other.hear(call)
            self.assertEqual(other.trodden, treadler.trodden)
            self.assertEqual(trodden_for(treadler.loom, treadler.wishes, treadler.sight, treadler.number, treadler.calls_made),
                             treadler.trodden)

    def test_undo(self):
        rng = random.Random(285)
        for treadler in some_treadlers(286, 25):
            states = [state(treadler)]
            for _ in range(60):
                if rng.random() < 0.35 and len(states) > 1:
                    call, letter = treadler.calls_made[-1], treadler.trodden
                    self.assertIsNone(treadler.undo())
                    states.pop()
                    self.assertEqual(state(treadler), states[-1])
                    if rng.random() < 0.5:
                        treadler.hear(call)
                        self.assertEqual(treadler.trodden, letter)
                        treadler.undo()
                else:
                    treadler.hear(rng.choice(treadler.wishes))
                    states.append(state(treadler))
                self.assertEqual(state(treadler), states[-1])
            # Everything is taken back, and one more.
            while len(treadler) > 0:
                treadler.undo()
                states.pop()
                self.assertEqual(state(treadler), states[-1])
            raised(self, NothingToUndo, treadler.undo)
            self.assertEqual(state(treadler), states[0])
            self.assertEqual(len(treadler.hear(treadler.wishes[0])), 0 if treadler.sight else 1)

    def test_undo_within_the_sight(self):
        treadler = Treadler(PLAIN, ("ab",), 1, 1)
        raised(self, NothingToUndo, treadler.undo)
        treadler.hear("ab")
        treadler.undo()
        self.assertEqual(state(treadler), ((), "", (0, 0), 0))
        treadler.hear("ab")
        first = treadler.hear("ab")
        treadler.hear("ab")
        treadler.undo()
        self.assertEqual(state(treadler)[:2], (("ab", "ab"), first))
        treadler.undo()
        self.assertEqual(state(treadler), (("ab",), "", (0, 0), 1))

    def test_two_share_nothing(self):
        one = Treadler(PLAIN, ("ab",), 0, 1)
        other = Treadler(PLAIN, ("ab",), 0, 1)
        one.hear("ab")
        self.assertEqual(state(other), ((), "", (0, 0), 0))
        other.hear("ab")
        other.hear("ab")
        one.undo()
        self.assertEqual((len(one), len(other), one.trodden, len(other.trodden)), (0, 2, "", 2))
        self.assertFalse(one == other)

    def test_bad_wishes_and_refused(self):
        values = [(), ["ab"], ("ba",), ("c",), ("ab", "a"), None, ("a", ""), *some_values(287, 200)]
        for value in values:
            if not are_right_wishes(PLAIN, value):
                # The number 0 is kept by nobody: wrong wishes are told ahead of that.
                self.assertIs(raised(self, BadWishes, Treadler, PLAIN, value, 0, 0).thing, value)
                self.assertIs(raised(self, BadWishes, trodden_for, PLAIN, value, 0, 0, (None,)).thing, value)
        for loom, wishes, sight, number in ((PLAIN, ("a", "ab"), 0, 1), (PLAIN, ("ab",), 1, 0), (SIX, SIX_WISHES, 0, 2)):
            for call, more in ((Treadler, ()), (trodden_for, ((None, "c"),))):
                rows = raised(self, Refused, call, loom, wishes, sight, number, *more).rows
                self.assertIs(play_holds(loom, wishes, sight, number, ("refusal", rows)), True)

    def test_refused_just_if_there_is_no_plan(self):
        rng = random.Random(288)
        for _ in range(60):
            loom, wishes, sight, number = random_play(rng)
            if judge_play(loom, wishes, sight, number)[0] == "plan":
                self.assertEqual(len(Treadler(loom, wishes, sight, number)), 0)
            else:
                rows = raised(self, Refused, Treadler, loom, wishes, sight, number).rows
                self.assertIs(play_holds(loom, wishes, sight, number, ("refusal", rows)), True)

    def test_bad_calls(self):
        loom = Loom(2, (0, 1), ((0,), (1,), (0,), (1,)))
        treadler = Treadler(loom, ("ab", "cd"), 1, 1)
        treadler.hear("ab")
        treadler.hear("cd")
        before = state(treadler)
        for value in [*some_values(289, 300), "a", "abcd", "ba", ["ab"], ("ab",), ("ab", "cd"), "ad"]:
            if type(value) is not str or value not in ("ab", "cd"):
                self.assertIs(raised(self, BadCall, treadler.hear, value).thing, value)
                self.assertEqual(state(treadler), before)
        self.assertEqual(len(treadler.hear("cd")), 1)

    def test_trodden_for(self):
        self.assertEqual(trodden_for(PLAIN, ("ab",), 0, 1, ()), "")
        self.assertEqual(trodden_for(PLAIN, ("ab",), 1, 1, ("ab",)), "")
        self.assertEqual(len(trodden_for(loom=PLAIN, wishes=("ab",), sight=1, number=1, calls=("ab",) * 60)), 59)
        calls = ("ab",) * 3
        self.assertEqual(sorted(trodden_for(PLAIN, ("ab",), 1, 1, calls)), ["a", "b"])
        self.assertEqual(calls, ("ab",) * 3)
        for value in FIXED_VALUES:
            if value != "ab":
                self.assertIs(raised(self, BadCall, trodden_for, PLAIN, ("ab",), 1, 1, ("ab", value, "c", None)).thing, value)
        rng = random.Random(290)
        for treadler in some_treadlers(291, 20):
            calls = tuple(rng.choice(treadler.wishes) for _ in range(rng.randrange(61)))
            word = trodden_for(treadler.loom, treadler.wishes, treadler.sight, treadler.number, calls)
            self.assertEqual(len(word), max(0, len(calls) - treadler.sight))
            self.assertTrue(all(letter in call for letter, call in zip(word, calls)))
            self.assertLessEqual(float_of(treadler.loom, word), treadler.number)


if __name__ == "__main__":
    unittest.main()
