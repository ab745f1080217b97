"""Points 1 to 3 over the whole program: one loom, one chart, one cloth through all parts that speak of it."""

import itertools
import random
import unittest

from loomhold.byletters import do_hold, letter_levels, letters_of
from loomhold.chartpapers import alike_holds, are_alike, judge_alike, least_chart
from loomhold.charts import Chart, first_treadling, has_treadling, many_treadlings, treadlings_of
from loomhold.clauses import judge_stripes
from loomhold.cloths import Cloth, strands, turned_at, woven
from loomhold.console import Console
from loomhold.drafts import is_draft_of, least_draft, led_treadling, reduced, unlike_paper
from loomhold.elements import element_of
from loomhold.errors import Kept, OtherPicture, Refused
from loomhold.findings import finding_holds
from loomhold.floatpapers import judge_floats, judge_within
from loomhold.floats import first_longest, greatest_float, greatest_weft_float, keeps_within, weft_float_of_roll
from loomhold.generations import does_hold_at, is_within_at, judge_generations
from loomhold.grips import first_slip, grip, judge_grip
from loomhold.growing import Growth, element_at, generation, picks_at
from loomhold.holding import do_all_hold, falling_chart, first_fall
from loomhold.holdpapers import judge_chart, judge_lasting, lasts_from
from loomhold.houses import House
from loomhold.joining import both, without
from loomhold.levels import does_hold, holding_holds, judge_holding, levels_of
from loomhold.looms import Loom
from loomhold.mending import fewest_turns, judge_mend, mended
from loomhold.motions import moved
from loomhold.patterns import first_form, judge_same, judge_strands, keepers
from loomhold.pegs import do_bind, fewest_pegs, judge_pegs, refusal, turned_loom
from loomhold.pictures import Picture, back, does_show, face
from loomhold.playpapers import can_keep
from loomhold.pressing import bars_by, bars_of, do_cover, fewest_bars, pressed_draft, woven_pressed
from loomhold.rolls import element_of_roll, first_pick_apart, picks_of, roll_read, text_of_roll
from loomhold.scripts import chart_of, script_of
from loomhold.shelves import does_keep, does_take, first_broken
from loomhold.showing import can_hold, cloth_by, judge_showing
from loomhold.stripes import back_by, stripes_by
from loomhold.treadlers import Treadler
from loomhold.callers import Caller
from tests.helpers import DOUBLE, LOOSE, PLAIN, fitting, random_cloth, random_loom, random_word
from tests.test_growing import FIBO, THUE, random_growth
from tests.test_motions import random_motion
from tests.test_rolls import random_roll
from tests.test_shelves import all_promises


class ClothsTest(unittest.TestCase):

    def test_one_cloth(self):
        rng = random.Random(1000)
        for _ in range(120):
            cloth = random_cloth(rng, 5, 5)
            holds = does_hold(cloth)
            self.assertEqual(judge_holding(cloth)[0], "holds" if holds else "apart")
            self.assertEqual(len(levels_of(cloth)) == 1, holds)
            self.assertEqual(fewest_turns(cloth) == 0, holds)
            if len(cloth) > 1 and cloth.ends > 1:
                other = mended(cloth)
                self.assertIs(does_hold(other), True)
                unlike = [(i, j) for i in range(len(cloth)) for j in range(cloth.ends) if cloth.picks[i][j] != other.picks[i][j]]
                self.assertEqual(turned_at(cloth, tuple(unlike)), other)
                self.assertEqual(len(unlike), fewest_turns(cloth))
            loom, word = least_draft(cloth)
            self.assertIs(is_draft_of(cloth, (loom, word)), True)
            self.assertEqual(woven(loom, word), cloth)
            self.assertIs(element_of(loom, word).holds, holds)
            self.assertIs(do_hold(loom, letters_of(word)), holds)
            self.assertEqual(len(letter_levels(loom, letters_of(word))), len(levels_of(cloth)))
            loom, presses = pressed_draft(cloth)
            self.assertEqual(woven_pressed(loom, presses), cloth)
            self.assertIs(do_cover(cloth, bars_of(cloth)), True)
            self.assertEqual(len(bars_by(loom, presses)), fewest_bars(cloth))
            for thing in (("cloth", str(cloth), judge_holding(cloth)), ("strands", str(cloth), judge_strands(cloth)), ("unlike", str(cloth), unlike_paper(cloth))):
                self.assertIs(finding_holds(thing), True)
            self.assertEqual(finding_holds(("mend", str(cloth), judge_mend(cloth))), judge_mend(cloth) is not None)

    def test_moved_cloths(self):
        # What is turned, mirrored and moved holds as before, has as many levels, and is mended by as few crossings.
        rng = random.Random(1001)
        for _ in range(120):
            cloth = random_cloth(rng, 4, 4)
            motion = random_motion(rng)
            other = moved(cloth, motion)
            self.assertEqual([len(level) for level in levels_of(other)][::-1 if "s" in motion[0] else 1], [len(level) for level in levels_of(cloth)])
            self.assertEqual(fewest_turns(other), fewest_turns(cloth))
            self.assertEqual(first_form(other), first_form(cloth))
            self.assertEqual(len(keepers(other)), len(keepers(cloth)))
            self.assertIs(finding_holds(("pattern", str(cloth), str(other), judge_same(cloth, other))), True)

    def test_pictures(self):
        rng = random.Random(1002)
        for _ in range(80):
            cloth = random_cloth(rng, 4, 4)
            stripes = ("".join(rng.choice("dl") for _ in range(cloth.ends)), "".join(rng.choice("dl") for _ in range(len(cloth))))
            picture = face(cloth, stripes)
            self.assertIs(does_show(picture, cloth, stripes), True)
            self.assertEqual(back_by(picture, stripes), back(cloth, stripes))
            self.assertIn(stripes, stripes_by(picture, back(cloth, stripes)))
            self.assertIs(does_show(picture, cloth_by(picture, stripes), stripes), True)
            paper = judge_stripes(picture)
            self.assertEqual(paper[0], "shown")
            self.assertIs(finding_holds(("stripes", str(picture), paper)), True)
            if len(cloth) > 1 and cloth.ends > 1:
                self.assertTrue(can_hold(picture, stripes) or not does_hold(cloth))
                self.assertEqual(judge_showing(picture, stripes)[0], "holds" if can_hold(picture, stripes) else "apart")
        self.assertIsInstance(face(Cloth(("x",)), ("d", "l")), Picture)


class ChartsTest(unittest.TestCase):

    def test_one_loom_and_one_chart(self):
        rng = random.Random(1003)
        for _ in range(120):
            loom, chart = fitting(rng, 3, 2)
            texts = (str(loom), str(chart))
            fall = first_fall(loom, chart)
            self.assertEqual(refusal(loom, chart, ()), fall)
            self.assertIs(do_all_hold(loom, chart), fall is None)
            self.assertIs(do_bind(loom, chart, ()), fall is None)
            self.assertIs(does_keep(loom, chart, ("holds",)), fall is None)
            self.assertEqual(fewest_pegs(loom, chart, most=0), ((),) if fall is None else ())
            last = lasts_from(loom, chart)
            self.assertIs(do_bind(loom, chart, (), late=True), last is not None)
            self.assertEqual(judge_lasting(loom, chart)[0], "ever" if last is None else "from")
            gripped = grip(loom, chart)
            self.assertIs(last is not None or gripped is None, True)
            for number in range(1, 5):
                self.assertIs(does_keep(loom, chart, ("from", number)), last is not None and last <= number)
                self.assertIs(does_keep(loom, chart, ("grip", number)), gripped is not None and gripped <= number)
                self.assertIs(does_keep(loom, chart, ("grip", number)), first_slip(loom, chart, number) is None)
                self.assertIs(does_keep(loom, chart, ("floats", number)), keeps_within(loom, chart, number))
                self.assertEqual(judge_within(loom, chart, number)[0] == "within", greatest_float(loom, chart) is not None and greatest_float(loom, chart) <= number)
            falling = falling_chart(loom, chart)
            self.assertIs(are_alike(both(chart, falling), falling), True)
            for number in range(5):
                words = list(treadlings_of(chart, number))
                self.assertEqual(len(words), many_treadlings(chart, number))
                for word in words:
                    holds = element_of(loom, word).holds
                    self.assertIs(has_treadling(falling, word), not holds)
                    self.assertIs(word != "" and does_hold(woven(loom, word)), holds)
                    self.assertIs(does_take(loom, chart, (word,) if word else ()), True)
                    if greatest_float(loom, chart) is not None:
                        self.assertLessEqual(element_of(loom, word).longest_float, greatest_float(loom, chart))
            for thing in (("all", *texts, judge_chart(loom, chart)), ("lasting", *texts, judge_lasting(loom, chart)), ("grip", *texts, judge_grip(loom, chart)),
                          ("floats", *texts, judge_floats(loom, chart)), ("pegs", *texts, judge_pegs(loom, chart))):
                self.assertIs(finding_holds(thing), True)
            for promise in all_promises(2):
                broken = first_broken(loom, chart, (promise,))
                self.assertTrue(broken is None or finding_holds(("broken", *texts, *broken)))

    def test_scripts_and_charts(self):
        rng = random.Random(1004)
        for _ in range(60):
            _, chart = fitting(rng, 3, 2)
            least = least_chart(chart)
            if first_treadling(chart) is not None:
                self.assertEqual(chart_of(script_of(chart), chart.letters), least)
            self.assertIs(alike_holds(chart, least, judge_alike(chart, least)), True)
            self.assertIsNone(first_treadling(without(chart, least)))
            self.assertIs(finding_holds(("alike", str(chart), str(least), judge_alike(chart, least))), True)

    def test_reduced_looms(self):
        # The treadling of the led letters holds as before, and floats as long.
        rng = random.Random(1005)
        for _ in range(80):
            loom = random_loom(rng, 4, 5, 3)
            small, led = reduced(loom)
            for _ in range(5):
                word = random_word(rng, loom.letters, 6)
                one, other = element_of(loom, word), element_of(small, led_treadling(loom, word))
                self.assertEqual((one.picks, one.holds, one.longest_float, one.loose), (other.picks, other.holds, other.longest_float, other.loose))
            chart = Chart(loom.letters, 2, tuple((s, x, rng.randrange(2)) for s in range(2) for x in loom.letters), (1,))
            if len(set(led)) == len(led):
                self.assertEqual(led, loom.letters)
                self.assertEqual(lasts_from(small, chart), lasts_from(loom, chart))
                self.assertEqual(grip(small, chart), grip(loom, chart))
                self.assertEqual(greatest_float(small, chart), greatest_float(loom, chart))
                self.assertEqual(greatest_weft_float(small, chart), greatest_weft_float(loom, chart))

    def test_turned_looms(self):
        rng = random.Random(1006)
        found = 0
        for _ in range(80):
            loom = Loom(2, (0, 1, 1), tuple(rng.choice([(), (0,), (1,), (0, 1)]) for _ in "ab"))
            chart = chart_of(rng.choice(["ab(ab)*", "[ab|ba]([a|b])*", "(aab)*b", "ab(a)*"]), "ab")
            for late in (False, True):
                for pegs in fewest_pegs(loom, chart, late=late):
                    turned = turned_loom(loom, pegs)
                    found += 1
                    if late:
                        self.assertIsNotNone(lasts_from(turned, chart))
                    else:
                        self.assertEqual(judge_chart(turned, chart)[0], "all")
                word = "late pegs" if late else "pegs"
                self.assertIs(finding_holds((word, str(loom), str(chart), judge_pegs(loom, chart, late=late))), True)
        self.assertGreater(found, 40)


class RollsTest(unittest.TestCase):

    def test_rolls_and_growths(self):
        rng = random.Random(1007)
        for _ in range(60):
            growth = random_growth(rng)
            for n in range(5):
                if picks_at(growth, n) > 200:
                    break
                word = generation(growth, n)
                element = element_of(growth.loom, word)
                roll = (word,) if word else ()
                self.assertEqual(element_at(growth, n), element)
                self.assertEqual(element_of_roll(growth.loom, roll), element)
                self.assertIs(does_hold_at(growth, n), element.holds)
                self.assertIs(is_within_at(growth, n, 2), element.longest_float <= 2)
                self.assertEqual(first_longest(growth.loom, roll)[0] if word else 0, element.longest_float)
            self.assertIs(finding_holds(("generations", str(growth), judge_generations(growth))), True)

    def test_rolls_and_charts(self):
        rng = random.Random(1008)
        for _ in range(80):
            loom, chart = fitting(rng, 3, 2)
            roll = random_roll(rng, loom.letters[:2], 2, 3)
            self.assertEqual(roll_read(loom, text_of_roll(loom, roll)), roll)
            self.assertIsNone(first_pick_apart(loom, roll[:0], roll[:0]))
            if does_take(loom, chart, roll) and picks_of(loom, roll) > 0:
                element = element_of_roll(loom, roll)
                self.assertTrue(element.holds or not do_all_hold(loom, chart))
                if greatest_float(loom, chart) is not None:
                    self.assertLessEqual(element.longest_float, greatest_float(loom, chart))
                    self.assertLessEqual(weft_float_of_roll(loom, roll), greatest_weft_float(loom, chart))

    def test_treadlers(self):
        rng = random.Random(1009)
        for loom, wishes in ((PLAIN, ("ab",)), (LOOSE, ("ab", "abc")), (PLAIN, ("a", "ab")), (Loom(3, (0, 1, 2), ((0,), (1,), (2,))), ("abc",))):
            for number in (1, 2):
                if can_keep(loom, wishes, 0, number):
                    treadler = Treadler(loom, wishes, 0, number)
                    for _ in range(30):
                        treadler.hear(rng.choice(wishes))
                        self.assertLessEqual(element_of(loom, treadler.trodden).longest_float, number)
                    self.assertRaises(Kept, Caller, loom, wishes, 0, number)
                else:
                    caller = Caller(loom, wishes, 0, number)
                    while not caller.is_broken:
                        caller.answer(rng.choice(caller.calls_made[len(caller)]))
                    self.assertGreater(element_of(loom, caller.trodden).longest_float, number)
                    self.assertRaises(Refused, Treadler, loom, wishes, 0, number)


class HousesTest(unittest.TestCase):

    def test_editions_keep_and_weave(self):
        rng = random.Random(1010)
        brought = 0
        for _ in range(60):
            house = House()
            house.found("t", PLAIN, chart_of("ab(ab)*", "ab"))
            for promise in rng.sample(all_promises(3), 4):
                if does_keep(*house.editions("t")[-1], promise):
                    house.add_promise("t", promise)
            for roll in (("ab",), ("ab", (10 ** 30, ("ab",)))):
                house.weave("t", roll)
            for _ in range(8):
                loom = rng.choice([PLAIN, Loom(4, (0, 1, 2, 3), ((0, 2), (1, 3))), PLAIN.with_lift("a", (0, 1)), Loom(2, (1, 0, 1, 0), ((1,), (0,), ()))])
                chart = chart_of(rng.choice(["ab(ab)*", "abab", "ab([a|b])*", "(ab)*"]), "ab")
                try:
                    house.bring("t", loom, chart)
                    brought += 1
                except Exception as error:
                    self.assertIn(type(error).__name__, ("Broken", "OtherPicture"))
                    if isinstance(error, OtherPicture):
                        self.assertIsNone(first_broken(loom, chart, house.promises("t")))
                    else:
                        self.assertEqual(first_broken(loom, chart, house.promises("t"))[0], error.promise)
                        self.assertIs(finding_holds(("broken", str(loom), str(chart), error.promise, error.paper)), True)
            for (loom, chart), (ahead, _) in zip(house.editions("t")[1:], house.editions("t")):
                self.assertIsNone(first_broken(loom, chart, house.promises("t")))
                self.assertEqual(woven(loom, "abab"), woven(ahead, "abab"))
        self.assertGreater(brought, 50)

    def test_consoles_and_houses(self):
        console = Console()
        text = str(DOUBLE).replace("\n", ";")
        console.run("found d abcd(abcd)* " + text)
        chart = chart_of("abcd(abcd)*", "abcd")
        for command, call, nothing in (("when d", lasts_from, "never"), ("stretch d", grip, "never"), ("longest d", greatest_float, "endless")):
            told = call(DOUBLE, chart)
            self.assertEqual(console.run(command), nothing if told is None else str(told))


class ConventionsTest(unittest.TestCase):

    def test_arguments_stay_as_they_were(self):
        loom, chart, cloth = LOOSE, chart_of("ab(c)*", "abc"), Cloth(("xx-", "x--", "-xx"))
        before = (str(loom), str(chart), str(cloth), str(FIBO), str(THUE))
        for call in (judge_chart, judge_lasting, judge_grip, judge_floats, judge_pegs, fewest_pegs):
            self.assertEqual(call(loom, chart), call(loom, chart))
        for call in (judge_holding, judge_mend, judge_strands, least_draft, pressed_draft, first_form, keepers, strands, bars_of):
            self.assertEqual(call(cloth), call(cloth))
        for growth in (FIBO, THUE):
            self.assertEqual(judge_generations(growth), judge_generations(growth))
        self.assertEqual((str(loom), str(chart), str(cloth), str(FIBO), str(THUE)), before)

    def test_objects_are_equal_to_their_own_kind_alone(self):
        objects = [PLAIN, Cloth(("x",)), Picture(("d",)), Chart("a", 1, (), ()), FIBO, element_of(PLAIN, "a"), House(), Console()]
        for one, other in itertools.permutations(objects, 2):
            self.assertFalse(one == other)
            self.assertTrue(one != other)
        for one in objects:
            for other in (None, 0, "", (), str(one), [one], (one,)):
                self.assertFalse(one == other)
        self.assertTrue(FIBO == Growth(FIBO.loom, FIBO.start, FIBO.rules))


if __name__ == "__main__":
    unittest.main()
