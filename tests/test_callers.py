"""Callers: somebody who calls wishes, points 31 to 35."""

import random
import unittest

from loomhold.callers import Caller
from loomhold.errors import BadLetter, BadWishes, Kept, NothingToUndo
from loomhold.playpapers import judge_play, play_holds
from tests.helpers import FIXED_VALUES, PLAIN, raised, some_values
from tests.test_floats import float_of
from tests.test_playpapers import SIX, SIX_WISHES, TWILL, are_right_wishes, does_break, random_play, told_behind


def state(caller):
    """What the properties of a caller tell."""
    return (caller.calls_made, caller.trodden, caller.runs_now, caller.is_broken, len(caller))


def call_now(caller):
    """The first call for which no letter was trodden."""
    return caller.calls_made[len(caller)]


def some_callers(seed, many):
    """So many callers of looms and wishes that let numbers be broken."""
    rng = random.Random(seed)
    out = [Caller(PLAIN, ("a", "ab"), 0, 1), Caller(TWILL, ("ab", "ac", "bc"), 0, 3), Caller(TWILL, ("ab", "ac", "bc"), 1, 2),
           Caller(SIX, SIX_WISHES, 0, 2), Caller(SIX, SIX_WISHES, 1, 1), Caller(PLAIN, ("ab",), 1, 0)]
    while len(out) < many:
        loom, wishes, sight, number = random_play(rng)
        if judge_play(loom, wishes, sight, number)[0] == "refusal":
            out.append(Caller(loom, wishes, sight, number))
    return out


class CallerTest(unittest.TestCase):

    def test_example(self):
        caller = Caller(PLAIN, ("a", "ab"), 0, 1)
        if caller.calls_made == ("a",):
            self.assertIs(caller.is_broken, False)
            further = caller.answer("a")
            self.assertIn(further, ("a", "ab"))
            if further == "a":
                self.assertEqual(caller.answer(letter="a"), "")
                self.assertIs(caller.is_broken, True)
        # This one calls a first, and then again.
        self.assertEqual(state(caller), (("a", "a"), "aa", (2, -2), True, 2))

    def test_made(self):
        caller = Caller(loom=PLAIN, wishes=("a", "ab"), sight=1, number=2)
        self.assertEqual((caller.loom, caller.wishes, caller.sight, caller.number), (PLAIN, ("a", "ab"), 1, 2))
        self.assertEqual(len(caller.calls_made), 2)
        self.assertEqual(state(caller)[1:], ("", (0, 0), False, 0))
        self.assertEqual(len(Caller(PLAIN, ("b",), 3, 1).calls_made), 4)

    def test_a_number_of_nought(self):
        for sight in (0, 1):
            caller = Caller(PLAIN, ("ab",), sight, 0)
            self.assertEqual(state(caller), (("ab",) * (sight + 1), "", (0, 0), False, 0))
            self.assertEqual(caller.answer("b"), "")
            self.assertEqual(state(caller), (("ab",) * (sight + 1), "b", (-1, 1), True, 1))
            caller.undo()
            self.assertEqual(state(caller), (("ab",) * (sight + 1), "", (0, 0), False, 0))

    def test_broken_at_last(self):
        rng = random.Random(301)
        for caller in some_callers(302, 60):
            loom, number = caller.loom, caller.number
            rows = {row[:2]: row[2] for row in judge_play(loom, caller.wishes, caller.sight, number)[1]}
            most = (2 * number + 1) ** len(loom.used) * len(caller.wishes) ** (caller.sight + 1)
            self.assertIn(((0,) * len(loom.used), caller.calls_made), rows)
            runs = (0,) * len(loom.used)
            calls = caller.calls_made
            trodden = ""
            while not caller.is_broken:
                letter = rng.choice(call_now(caller))
                further = caller.answer(letter)
                trodden += letter
                runs = told_behind(loom, runs, letter)
                self.assertEqual(further == "", does_break(runs, number))
                self.assertEqual(further == "", float_of(loom, trodden) > number)
                if further != "":
                    self.assertIn(further, caller.wishes)
                    calls += (further,)
                self.assertEqual(state(caller), (calls, trodden, runs, further == "", len(trodden)))
                self.assertLessEqual(len(trodden), most)
            self.assertGreater(float_of(loom, trodden), number)

    def test_one_refusal(self):
        rng = random.Random(303)
        for caller in some_callers(304, 30):
            answers = {}
            first = caller.calls_made
            for _ in range(60):
                if caller.is_broken:
                    caller.undo()
                    continue
                runs, calls = caller.runs_now, caller.calls_made[len(caller):]
                letter = rng.choice(calls[0])
                further = caller.answer(letter)
                self.assertEqual(answers.setdefault((runs, calls, letter), further), further)
            other = Caller(caller.loom, caller.wishes, caller.sight, caller.number)
            self.assertEqual(other.calls_made, first)
            for letter in caller.trodden:
                other.answer(letter)
            self.assertEqual(state(other), state(caller))

    def test_undo(self):
        rng = random.Random(305)
        for caller in some_callers(306, 40):
            states = [state(caller)]
            for _ in range(60):
                if caller.is_broken or (rng.random() < 0.3 and len(states) > 1):
                    letter, was = caller.trodden[-1], state(caller)
                    self.assertIsNone(caller.undo())
                    states.pop()
                    self.assertEqual(state(caller), states[-1])
                    if rng.random() < 0.5:
                        caller.answer(letter)
                        self.assertEqual(state(caller), was)
                        caller.undo()
                else:
                    caller.answer(rng.choice(call_now(caller)))
                    states.append(state(caller))
                self.assertEqual(state(caller), states[-1])
            while len(caller) > 0:
                caller.undo()
                states.pop()
                self.assertEqual(state(caller), states[-1])
            # The first calls are not taken back.
            raised(self, NothingToUndo, caller.undo)
            self.assertEqual(state(caller), states[0])
            self.assertEqual(len(caller.calls_made), caller.sight + 1)

    def test_two_share_nothing(self):
        one = Caller(PLAIN, ("a", "ab"), 0, 1)
        other = Caller(PLAIN, ("a", "ab"), 0, 1)
        before = state(other)
        one.answer("a")
        self.assertEqual(state(other), before)
        other.answer("a")
        other.answer("a")
        one.undo()
        self.assertEqual((len(one), len(other), one.is_broken, other.is_broken), (0, 2, False, True))
        self.assertFalse(one == other)

    def test_bad_letters(self):
        values = some_values(307, 200)
        for caller in some_callers(308, 8):
            while True:
                before = state(caller)
                let = [] if caller.is_broken else list(call_now(caller))
                for value in [*values, *"abcdefg", *caller.wishes]:
                    if type(value) is not str or value not in let:
                        self.assertIs(raised(self, BadLetter, caller.answer, value).thing, value)
                        self.assertEqual(state(caller), before)
                if caller.is_broken:
                    break
                caller.answer(let[-1])
            # A broken number, and the letter is taken back: it may be answered again.
            letter = caller.trodden[-1]
            caller.undo()
            self.assertEqual(caller.answer(letter), "")

    def test_bad_wishes_and_kept(self):
        for value in [(), ["ab"], ("ba",), ("c",), ("ab", "a"), None, *some_values(309, 200)]:
            if not are_right_wishes(PLAIN, value):
                self.assertIs(raised(self, BadWishes, Caller, PLAIN, value, 0, 3).thing, value)
        for loom, wishes, sight, number in ((PLAIN, ("ab",), 0, 1), (PLAIN, ("ab",), 1, 3), (SIX, SIX_WISHES, 1, 2)):
            cells = raised(self, Kept, Caller, loom, wishes, sight, number).cells
            self.assertIs(play_holds(loom, wishes, sight, number, ("plan", cells)), True)

    def test_kept_just_if_there_is_a_plan(self):
        rng = random.Random(310)
        for _ in range(60):
            loom, wishes, sight, number = random_play(rng)
            if judge_play(loom, wishes, sight, number)[0] == "refusal":
                self.assertEqual(len(Caller(loom, wishes, sight, number)), 0)
            else:
                cells = raised(self, Kept, Caller, loom, wishes, sight, number).cells
                self.assertIs(play_holds(loom, wishes, sight, number, ("plan", cells)), True)

    def test_any_letters_at_once(self):
        caller = Caller(PLAIN, ("ab",), 0, 0)
        for value in FIXED_VALUES:
            if value not in ("a", "b"):
                self.assertIs(raised(self, BadLetter, caller.answer, value).thing, value)


if __name__ == "__main__":
    unittest.main()
