"""Beams: point 21."""

import random
import unittest

from loomhold.beams import Beam
from loomhold.elements import element_of
from loomhold.errors import BadPlace, BadRoll, NothingToUndo
from loomhold.looms import Loom
from loomhold.rolls import first_pick_apart, is_roll, picks_of, stretch, treadle_at
from tests.helpers import PLAIN, raised, random_loom, some_values
from tests.test_rolls import FAR, MOST, is_right_roll, random_roll, written_out


class BeamTest(unittest.TestCase):

    def test_made(self):
        beam = Beam(PLAIN, ("a", (2, ("ab",))))
        self.assertEqual(beam.loom, PLAIN)
        self.assertEqual(written_out(beam.roll_now), "aabab")
        self.assertEqual(beam.picks_now, 5)
        self.assertEqual(beam.element_now, element_of(PLAIN, "aabab"))
        self.assertIs(beam.holds_now, True)
        empty = Beam(loom=PLAIN, roll=())
        self.assertEqual((empty.picks_now, empty.holds_now), (0, False))
        self.assertEqual(empty.element_now, element_of(PLAIN, ""))

    def test_bad_rolls(self):
        for value in some_values(101, 300):
            if not is_right_roll("ab", value):
                self.assertIs(raised(self, BadRoll, Beam, PLAIN, value).thing, value)
                self.assertIs(raised(self, BadRoll, Beam(PLAIN, ("ab",)).change, 0, 2, value).thing, value)

    def test_changes(self):
        beam = Beam(PLAIN, ("ab", (2, ("b",))))
        self.assertIsNone(beam.change(1, 3, ("aa",)))
        self.assertEqual(written_out(beam.roll_now), "aaab")
        beam.change(start=4, end=4, roll=((2, ("a",)),))
        self.assertEqual(written_out(beam.roll_now), "aaabaa")
        beam.change(0, 6, ())
        self.assertEqual((beam.picks_now, beam.holds_now), (0, False))
        beam.change(0, 0, ("b",))
        self.assertEqual(written_out(beam.roll_now), "b")
        beam.change(0, 0, ())
        self.assertIsNone(beam.undo())
        for word in ("b", "", "aaabaa", "aaab", "abbb"):
            self.assertEqual(written_out(beam.roll_now), word)
            self.assertEqual(beam.element_now, element_of(PLAIN, word))
            if word != "abbb":
                beam.undo()
        raised(self, NothingToUndo, beam.undo)
        self.assertEqual(written_out(beam.roll_now), "abbb")

    def test_bad_places(self):
        beam = Beam(PLAIN, ("ab", (2, ("b",))))
        for place in (5, -1, MOST, -MOST, True, False, None, "0", (0,), [0], PLAIN):
            for call in (lambda start, end: beam.change(start, end, ("c",)), beam.element_from):
                self.assertIs(raised(self, BadPlace, call, place, 0).place, place)
                self.assertIs(raised(self, BadPlace, call, place, None).place, place)
                self.assertIs(raised(self, BadPlace, call, 0, place).place, place)
        for value in some_values(102, 200):
            if type(value) is not int or not 0 <= value <= 4:
                self.assertIs(raised(self, BadPlace, beam.element_from, value, []).place, value)
                self.assertIs(raised(self, BadPlace, beam.change, 4, value, None).place, value)
        self.assertEqual(raised(self, BadPlace, beam.change, 3, 2, ("c",)).place, 2)
        self.assertEqual(raised(self, BadPlace, beam.element_from, start=3, end=2).place, 2)
        self.assertEqual(raised(self, BadRoll, beam.change, 2, 3, ("c",)).thing, ("c",))
        # What was refused has changed nothing.
        self.assertEqual(written_out(beam.roll_now), "abbb")
        raised(self, NothingToUndo, beam.undo)

    def test_sixty_changes(self):
        rng = random.Random(103)
        for _ in range(25):
            loom = random_loom(rng)
            letters = loom.letters
            roll = random_roll(rng, letters)
            beam = Beam(loom, roll)
            words = [written_out(roll)]
            for _ in range(60):
                if len(words) > 1 and rng.random() < 0.35:
                    beam.undo()
                    words.pop()
                else:
                    word = words[-1]
                    start = rng.randrange(len(word) + 1)
                    end = rng.randrange(start, len(word) + 1)
                    put = random_roll(rng, letters, 2)
                    beam.change(start, end, put)
                    words.append(word[:start] + written_out(put) + word[end:])
                word = words[-1]
                self.assertTrue(is_roll(loom, beam.roll_now))
                self.assertEqual(written_out(beam.roll_now), word)
                self.assertEqual(beam.picks_now, len(word))
                self.assertEqual(beam.element_now, element_of(loom, word))
                self.assertIs(beam.holds_now, element_of(loom, word).holds)
                start = rng.randrange(len(word) + 1)
                end = rng.randrange(start, len(word) + 1)
                self.assertEqual(beam.element_from(start, end), element_of(loom, word[start:end]))
            anew = Beam(loom, beam.roll_now)
            self.assertEqual(anew.element_now, beam.element_now)
            while len(words) > 1:
                beam.undo()
                words.pop()
            self.assertEqual(written_out(beam.roll_now), words[0])
            raised(self, NothingToUndo, beam.undo)

    def test_far_rolls(self):
        rng = random.Random(104)
        beam = Beam(PLAIN, FAR)
        whole = beam.element_now
        for number in range(60):
            picks = beam.picks_now
            start = rng.randrange(picks + 1)
            end = min(picks, start + rng.choice([0, 1, 5, MOST]))
            put = [(), ("ab",), ((MOST, ("b", (2, ("a",)))),)][number % 3]
            ahead, behind = beam.element_from(0, start), beam.element_from(end, picks)
            inner = Beam(PLAIN, put)
            beam.change(start, end, put)
            self.assertEqual(beam.picks_now, picks - (end - start) + inner.picks_now)
            self.assertEqual(beam.element_now, ahead + inner.element_now + behind)
            if start < beam.picks_now and put:
                self.assertEqual(treadle_at(PLAIN, beam.roll_now, start), "a" if put == ("ab",) else "b")
            self.assertTrue(is_roll(PLAIN, beam.roll_now))
        for _ in range(60):
            beam.undo()
        self.assertEqual(beam.element_now, whole)
        self.assertEqual(beam.picks_now, picks_of(PLAIN, FAR))

    def test_deep_rolls(self):
        deep = ("a",)
        for _ in range(12):
            deep = ((MOST, deep), "b")
        beam = Beam(PLAIN, deep)
        rng = random.Random(105)
        for _ in range(12):
            start = rng.randrange(beam.picks_now + 1)
            beam.change(start, start, deep)
            self.assertTrue(is_roll(PLAIN, beam.roll_now))
        self.assertEqual(beam.picks_now, 13 * picks_of(PLAIN, deep))
        self.assertIs(beam.holds_now, True)
        self.assertEqual(beam.element_now, Beam(PLAIN, beam.roll_now).element_now)

    def test_two_beams_share_nothing(self):
        roll = ("ab", (3, ("b",)))
        one = Beam(PLAIN, roll)
        other = Beam(PLAIN, roll)
        one.change(0, 1, ("bb",))
        self.assertEqual(written_out(other.roll_now), "abbbb")
        raised(self, NothingToUndo, other.undo)
        third = Beam(one.loom, one.roll_now)
        third.change(0, 6, ())
        self.assertEqual(written_out(one.roll_now), "bbbbbb")
        self.assertEqual(roll, ("ab", (3, ("b",))))
        self.assertIsNone(first_pick_apart(PLAIN, stretch(PLAIN, one.roll_now, 0, 6), ("bbbbbb",)))

    def test_a_loom_of_its_own(self):
        loom = Loom(1, (0,), ((0,), ()))
        beam = Beam(loom, ("ab",))
        self.assertIs(beam.holds_now, False)
        self.assertEqual(beam.element_from(0, 1).loose, (False, True))
        self.assertEqual(beam.element_from(1, 1), element_of(loom, ""))


if __name__ == "__main__":
    unittest.main()
