"""Papers of plays: points 31 to 35."""

import itertools
import random
import time
import unittest

from loomhold.errors import BadWishes
from loomhold.looms import Loom
from loomhold.playpapers import can_keep, judge_play, least_kept, play_holds, runs_behind
from tests.helpers import PLAIN, SPARE, all_changed, changed_values, is_sorted, is_true_int, raised, random_loom, some_values, with_another_row
from tests.test_floats import lift_told

TWILL = Loom(3, (0, 1, 2), ((0,), (1,), (2,)))
SIX = Loom(3, (0, 1, 2), ((1,), (0, 1, 2), (0, 1), (0, 2), (), (2,)))
SIX_WISHES = ("acf", "ade", "bef")
PLAN = (((-1, 1), ("ab",), "a"), ((0, 0), ("ab",), "a"), ((1, -1), ("ab",), "b"))
REFUSAL = (((0, 0), ("a",), 1, ("a",)), ((1, -1), ("a",), 0, ("",)))


def are_right_wishes(loom, thing):
    """Tell whether a value is wishes, as point 31 words it."""
    if type(thing) is not tuple or len(thing) == 0 or not all(type(wish) is str and wish != "" for wish in thing):
        return False
    return all(set(wish) <= set(loom.letters) and is_sorted(wish) for wish in thing) and is_sorted(thing)


def told_behind(loom, runs, letter):
    """The runs to which a letter leads, as point 32 words it."""
    out = []
    for shaft, run in zip(sorted(set(loom.threading)), runs):
        raises = shaft in lift_told(loom, letter)
        if run > 0 and raises:
            out.append(run + 1)
        elif run < 0 and not raises:
            out.append(run - 1)
        else:
            out.append(1 if raises else -1)
    return tuple(out)


def does_break(runs, number):
    return any(run > number or run < -number for run in runs)


def call_rows(wishes, sight):
    return list(itertools.product(wishes, repeat=sight + 1))


def solved_told(loom, wishes, sight, number, full=False):
    """All stands, from the noughts on or with any runs, and for each that the treadler loses how many rounds it takes."""
    used = len(set(loom.threading))
    noughts = (0,) * used
    starts = itertools.product(range(-number, number + 1), repeat=used) if full else [noughts]
    stands = {(runs, calls) for runs in starts for calls in call_rows(wishes, sight)}
    row = list(stands)
    while row:
        runs, calls = row.pop()
        for letter in calls[0]:
            led = told_behind(loom, runs, letter)
            if not does_break(led, number):
                for wish in wishes:
                    stand = (led, calls[1:] + (wish,))
                    if stand not in stands:
                        stands.add(stand)
                        row.append(stand)
    lost = {}
    for turn in range(len(stands) + 1):
        found = [stand for stand in stands if stand not in lost and not safe_letters(loom, wishes, number, stand, lost)]
        if not found:
            break
        lost.update((stand, turn) for stand in found)
    return stands, lost


def safe_letters(loom, wishes, number, stand, lost):
    """The letters of a stand that neither break the number nor can be answered on to a stand that is lost."""
    runs, calls = stand
    out = []
    for letter in calls[0]:
        led = told_behind(loom, runs, letter)
        if not does_break(led, number) and all((led, calls[1:] + (wish,)) not in lost for wish in wishes):
            out.append(letter)
    return out


def is_right_play_paper(loom, wishes, sight, number, thing):
    """Tell whether a value is a paper as points 33 to 35 word it."""
    if type(thing) is not tuple or len(thing) != 2 or type(thing[0]) is not str or type(thing[1]) is not tuple:
        return False
    used = len(set(loom.threading))
    stands = {}
    for item in thing[1]:
        if type(item) is not tuple or len(item) != (3 if thing[0] == "plan" else 4):
            return False
        runs, calls = item[:2]
        if type(runs) is not tuple or len(runs) != used or not all(is_true_int(run) for run in runs) or does_break(runs, number):
            return False
        if type(calls) is not tuple or not all(type(call) is str and call in wishes for call in calls) or len(calls) != sight + 1:
            return False
        if (runs, calls) in stands:
            return False
        stands[(runs, calls)] = item[2:]
    starts = [((0,) * used, calls) for calls in call_rows(wishes, sight)]
    if thing[0] == "plan":
        for (runs, calls), (letter,) in stands.items():
            if type(letter) is not str or letter not in list(calls[0]):
                return False
            led = told_behind(loom, runs, letter)
            if does_break(led, number) or not all((led, calls[1:] + (wish,)) in stands for wish in wishes):
                return False
        return is_sorted(thing[1]) and all(start in stands for start in starts)
    if thing[0] != "refusal":
        return False
    if not all(is_true_int(rank) for rank, _ in stands.values()):
        return False
    for (runs, calls), (rank, answers) in stands.items():
        if rank < 0 or type(answers) is not tuple or len(answers) != len(calls[0]):
            return False
        for letter, answer in zip(calls[0], answers):
            if type(answer) is not str:
                return False
            led = told_behind(loom, runs, letter)
            if does_break(led, number):
                if answer != "":
                    return False
            else:
                further = (led, calls[1:] + (answer,))
                if answer not in wishes or further not in stands or not stands[further][0] < rank:
                    return False
    return is_sorted(thing[1]) and any(start in stands for start in starts)


def random_wishes(rng, loom, lengths):
    """Some wishes of such lengths, but for those with more letters than the loom has."""
    words = {"".join(sorted(rng.sample(loom.letters, min(len(loom.letters), rng.choice(lengths)))))
             for _ in range(rng.randrange(1, 4))}
    return tuple(sorted(words))


def random_play(rng, ends=4):
    """Some loom of up to three used shafts and six treadles, wishes, a sight and a number."""
    shafts = rng.randrange(1, 5)
    threading = tuple(rng.choice(range(shafts)[:3]) for _ in range(rng.randrange(1, ends + 1)))
    lifts = tuple(tuple(s for s in range(shafts) if rng.random() < 0.5) for _ in range(rng.randrange(2, 7)))
    loom = Loom(shafts, threading, lifts)
    words = random_wishes(rng, loom, [1, 2, 3, 3, 3])
    sight = rng.randrange(2)
    return loom, words, sight, rng.randrange(3 if sight else 4)


class PlayTest(unittest.TestCase):

    def test_examples(self):
        self.assertEqual(least_kept(PLAIN, ("ab",), 0, 3), 1)
        self.assertIs(play_holds(PLAIN, ("ab",), 0, 1, ("plan", PLAN)), True)
        self.assertEqual(judge_play(PLAIN, ("ab",), 0, 1)[0], "plan")
        self.assertIs(can_keep(PLAIN, ("a", "ab"), 0, 3), False)
        self.assertIs(play_holds(PLAIN, ("a", "ab"), 0, 1, ("refusal", REFUSAL)), True)
        self.assertEqual(judge_play(PLAIN, ("a", "ab"), 0, 1)[0], "refusal")
        self.assertEqual(least_kept(TWILL, ("abc",), 0, 3), 2)
        self.assertIsNone(least_kept(TWILL, ("ab", "ac", "bc"), 0, 3))
        self.assertEqual(least_kept(SIX, SIX_WISHES, 0, 3), 3)
        self.assertEqual(least_kept(SIX, SIX_WISHES, 1, 2), 2)

    def test_by_name(self):
        self.assertEqual(judge_play(loom=PLAIN, wishes=("ab",), sight=0, number=1), judge_play(PLAIN, ("ab",), 0, 1))
        self.assertIs(play_holds(loom=PLAIN, wishes=("ab",), sight=0, number=1, thing=("plan", PLAN)), True)
        self.assertIs(can_keep(loom=PLAIN, wishes=("ab",), sight=1, number=1), True)
        self.assertEqual(least_kept(loom=PLAIN, wishes=("ab",), sight=1, most=1), 1)
        self.assertEqual(runs_behind(loom=PLAIN, runs=(2, -3), letter="a"), (3, -4))

    def test_runs(self):
        self.assertEqual(runs_behind(PLAIN, (0, 0), "a"), (1, -1))
        self.assertEqual(runs_behind(PLAIN, (0, 5), "b"), (-1, 6))
        self.assertEqual(runs_behind(PLAIN, (7, -9), "b"), (-1, 1))
        # SPARE has the used shafts 0, 1 and 3.
        self.assertEqual(runs_behind(SPARE, (1, -1, 2), "a"), (-1, 1, 3))
        self.assertEqual(runs_behind(SPARE, (10 ** 30, -10 ** 30, 0), "b"), (10 ** 30 + 1, -10 ** 30 - 1, -1))
        rng = random.Random(261)
        for _ in range(200):
            loom = random_loom(rng)
            runs = tuple(rng.randrange(-4, 5) for _ in loom.used)
            for letter in loom.letters:
                self.assertEqual(runs_behind(loom, runs, letter), told_behind(loom, runs, letter))

    def test_a_number_of_nought(self):
        rng = random.Random(262)
        for _ in range(20):
            loom, wishes, sight, _ = random_play(rng)
            self.assertEqual(judge_play(loom, wishes, sight, 0)[0], "refusal")
            noughts = (0,) * len(loom.used)
            for calls in call_rows(wishes, sight):
                thing = ("refusal", ((noughts, calls, 0, ("",) * len(calls[0])),))
                self.assertIs(play_holds(loom, wishes, sight, 0, thing), True)
            self.assertIs(play_holds(loom, wishes, sight, 0, ("plan", ())), False)
            self.assertIsNone(least_kept(loom, wishes, sight, 0))

    def test_wishes_of_one_letter(self):
        for sight, number in ((0, 0), (0, 3), (1, 2)):
            self.assertIs(can_keep(PLAIN, ("a",), sight, number), False)
            self.assertIs(can_keep(TWILL, ("abc", "b"), sight, number), False)
        rows = judge_play(PLAIN, ("b",), 0, 3)[1]
        self.assertEqual(rows, (((-3, 3), ("b",), 0, ("",)), ((-2, 2), ("b",), 1, ("b",)), ((-1, 1), ("b",), 2, ("b",)),
                                ((0, 0), ("b",), 3, ("b",))))

    def test_one_side_at_all_letters_of_a_wish(self):
        # The shaft 2 of SIX is not raised at a, c and e.
        for sight in (0, 1):
            self.assertIsNone(least_kept(SIX, ("ace", "bdf"), sight, 2))

    def test_one_by_one(self):
        rng = random.Random(263)
        kinds = {}
        for _ in range(120):
            loom, wishes, sight, number = random_play(rng)
            before = str(loom)
            stands, lost = solved_told(loom, wishes, sight, number)
            starts = [((0,) * len(loom.used), calls) for calls in call_rows(wishes, sight)]
            keeps = not any(start in lost for start in starts)
            paper = judge_play(loom, wishes, sight, number)
            self.assertEqual(paper[0], "plan" if keeps else "refusal")
            self.assertTrue(is_right_play_paper(loom, wishes, sight, number, paper))
            self.assertIs(play_holds(loom, wishes, sight, number, paper), True)
            self.assertIs(can_keep(loom, wishes, sight, number), keeps)
            self.assertEqual(judge_play(loom, wishes, sight, number), paper)
            self.assertEqual(str(loom), before)
            kinds[(paper[0], sight)] = kinds.get((paper[0], sight), 0) + 1
            # What one number or sight shows a plan for, greater ones do.
            if keeps:
                self.assertIs(can_keep(loom, wishes, sight, number + 1), True)
                self.assertIs(can_keep(loom, wishes, sight + 1, number), True)
        self.assertGreater(min(kinds.values()), 3)
        self.assertEqual(len(kinds), 4)

    def test_least_kept(self):
        rng = random.Random(264)
        found = set()
        for turn in range(80):
            lifts = tuple(tuple(s for s in range(3) if rng.random() < 0.5) for _ in range(6))
            loom = Loom(3, (0, 1, 2), lifts)
            wishes = random_wishes(rng, loom, [2, 3, 3])
            sight = turn % 2
            most = 2 if sight else 3
            row = [can_keep(loom, wishes, sight, number) for number in range(most + 1)]
            self.assertEqual(row, sorted(row))
            for end in range(most + 1):
                told = row.index(True) if True in row[:end + 1] else None
                self.assertEqual(least_kept(loom, wishes, sight, end), told)
            found.add(told)
        self.assertLessEqual({None, 1, 2}, found)

    def test_plans_and_refusals_played(self):
        rng = random.Random(265)
        for _ in range(60):
            loom, wishes, sight, number = random_play(rng)
            word, rows = judge_play(loom, wishes, sight, number)
            table = {row[:2]: row[2:] for row in rows}
            noughts = (0,) * len(loom.used)
            for _ in range(5):
                if word == "plan":
                    stand = (noughts, tuple(rng.choice(wishes) for _ in range(sight + 1)))
                    for _ in range(40):
                        runs = told_behind(loom, stand[0], table[stand][0])
                        self.assertFalse(does_break(runs, number))
                        stand = (runs, stand[1][1:] + (rng.choice(wishes),))
                else:
                    stand = rng.choice([stand for stand in table if stand[0] == noughts])
                    for left in range(table[stand][0], -2, -1):
                        self.assertGreaterEqual(left, 0)
                        place = rng.randrange(len(stand[1][0]))
                        runs = told_behind(loom, stand[0], stand[1][0][place])
                        answer = table[stand][1][place]
                        self.assertEqual(answer == "", does_break(runs, number))
                        if answer == "":
                            break
                        stand = (runs, stand[1][1:] + (answer,))

    def test_papers_of_others(self):
        rng = random.Random(266)
        kinds = {}
        for _ in range(50):
            loom, wishes, sight, number = random_play(rng, 2)
            # All stands with any runs, also such as no treadling brings, and any letters and wishes that will do.
            stands, lost = solved_told(loom, wishes, sight, number, full=True)
            word = judge_play(loom, wishes, sight, number)[0]
            kinds[word] = kinds.get(word, 0) + 1
            if word == "plan":
                cells = tuple(sorted((*stand, rng.choice(safe_letters(loom, wishes, number, stand, lost)))
                                     for stand in stands if stand not in lost))
                self.assertIs(play_holds(loom, wishes, sight, number, ("plan", cells)), True)
                continue
            rows = []
            for stand, turn in lost.items():
                answers = []
                for letter in stand[1][0]:
                    led = told_behind(loom, stand[0], letter)
                    let = [wish for wish in wishes if lost.get((led, stand[1][1:] + (wish,)), turn) < turn]
                    answers.append("" if does_break(led, number) else rng.choice(let))
                rows.append((*stand, turn, tuple(answers)))
            for change in (lambda turn: turn, lambda turn: 2 * turn + 5, lambda turn: turn + 10 ** 38):
                thing = ("refusal", tuple(sorted((*row[:2], change(row[2]), row[3]) for row in rows)))
                self.assertIs(play_holds(loom, wishes, sight, number, thing), True)
            if max(lost.values()) > 0:
                same = ("refusal", tuple(sorted((*row[:2], 0, row[3]) for row in rows)))
                self.assertIs(play_holds(loom, wishes, sight, number, same), False)
        self.assertGreater(min(kinds.values()), 5)

    def test_cells_to_which_nothing_leads(self):
        more = tuple(sorted([*PLAN, ((-1, 0), ("ab",), "a"), ((0, 1), ("ab",), "a"), ((1, 0), ("ab",), "b")]))
        self.assertIs(play_holds(PLAIN, ("ab",), 0, 1, ("plan", more)), True)
        self.assertIs(play_holds(PLAIN, ("ab",), 0, 1, ("plan", tuple(sorted([*PLAN, ((1, 0), ("ab",), "a")])))), False)
        self.assertIs(play_holds(PLAIN, ("ab",), 0, 2, ("plan", tuple(sorted([*PLAN, ((2, 0), ("ab",), "b")])))), True)
        self.assertIs(play_holds(PLAIN, ("ab",), 0, 1, ("plan", tuple(sorted([*PLAN, ((2, 0), ("ab",), "b")])))), False)

    def test_wrong_ones(self):
        wrong = [("plan", PLAN[1:]), ("plan", PLAN[:2]), ("plan", (PLAN[0], PLAN[2])), ("plan", PLAN[::-1]), ("plan", PLAN + PLAN[2:]),
                 ("plan", list(PLAN)), ["plan", PLAN], ("plan", PLAN, ()), ("plan",), ("refusal", PLAN), ("plan", ()), PLAN, None,
                 ("plan", (PLAN[0], ((0, 0), ("ab",), "c"), PLAN[2])), ("plan", (PLAN[0], ((0, 0), ("ab",), "ab"), PLAN[2])),
                 ("plan", (PLAN[0], ((0, 0), ("ab",), ""), PLAN[2])), ("plan", (PLAN[0], ((0, False), ("ab",), "a"), PLAN[2])),
                 ("plan", (PLAN[0], ((0, 0), ["ab"], "a"), PLAN[2])), ("plan", (PLAN[0], ([0, 0], ("ab",), "a"), PLAN[2])),
                 ("plan", (((-1, True), ("ab",), "a"), *PLAN[1:])), ("plan", (((-1, 1), ("ab",), "b"), *PLAN[1:])),
                 ("plan", (PLAN[0], ((0, 0), ("ab",), "a"), ((0, 0), ("ab",), "b"), PLAN[2])), ("plan", (*PLAN, ((1, -1, 0), ("ab",), "b"))),
                 ("plan", (*PLAN, ((1, 0), ("ab", "ab"), "b"))), ("plan", (*PLAN, ((1, 0), ("a",), "a"))), ("plan", (*PLAN, ((1, 0), (), "b"))),
                 ("plan", (PLAN[0], ((0, 0), ("ab",), ["a"]), PLAN[2])), ("plan", (PLAN[0], ((0, 0), ("ab",)), PLAN[2]))]
        for thing in wrong:
            self.assertIs(play_holds(PLAIN, ("ab",), 0, 1, thing), False, thing)
        rows = REFUSAL
        wrong = [("refusal", rows[:1]), ("refusal", rows[1:]), ("refusal", rows[::-1]), ("refusal", rows + rows[1:]), ("refusal", list(rows)),
                 ["refusal", rows], ("refusal", ()), ("plan", rows), ("refusal", (((0, 0), ("a",), 0, ("a",)), rows[1])),
                 ("refusal", (((0, 0), ("a",), True, ("a",)), rows[1])), ("refusal", (((0, 0), ("a",), 1, ["a"]), rows[1])),
                 ("refusal", (((0, 0), ("a",), 1, ("",)), rows[1])), ("refusal", (((0, 0), ("a",), 1, ("ab",)), rows[1])),
                 ("refusal", (((0, 0), ("a",), 1, ("b",)), rows[1])), ("refusal", (((0, 0), ("a",), 1, ("a", "a")), rows[1])),
                 ("refusal", (((0, 0), ("a",), 1, ()), rows[1])), ("refusal", (rows[0], ((1, -1), ("a",), -1, ("",)))),
                 ("refusal", (rows[0], ((1, -1), ("a",), 0, ("a",)))), ("refusal", (rows[0], ((1, -1), ("a",), 1, ("",)))),
                 ("refusal", (((False, 0), ("a",), 1, ("a",)), rows[1])), ("refusal", (((0, 0), ("a",), 1, ("a",), 0), rows[1])),
                 ("refusal", (rows[0], ((1, -1), ("a",), 0, ("",)), ((1, -1), ("a",), 1, ("",)))),
                 ("refusal", (rows[0], ((1, -1), ("ab",), 0, ("", "a")))), ("refusal", (*rows, ((2, -1), ("a",), 0, ("",))))]
        for thing in wrong:
            self.assertIs(play_holds(PLAIN, ("a", "ab"), 0, 1, thing), False, thing)
        # At most one row stands there for each stand, whatever its number is.
        for more in (((1, -1), ("a",), 1, ("",)), ((1, -1), ("a",), 0, (None,)), ((1, -1), ("a",), 0, ([],)), ((1, -1), ("a",), 0, ("a",))):
            thing = ("refusal", (((0, 0), ("a",), 9, ("a",)), rows[1], more))
            self.assertIs(play_holds(PLAIN, ("a", "ab"), 0, 1, thing), False, thing)
        self.assertIs(play_holds(PLAIN, ("a", "ab"), 0, 1, ("refusal", (((0, 0), ("a",), 9, ("a",)), rows[1]))), True)
        # What holds for one number or one sight need not for others.
        self.assertIs(play_holds(PLAIN, ("ab",), 1, 1, ("plan", PLAN)), False)
        self.assertIs(play_holds(PLAIN, ("ab",), 0, 0, ("plan", PLAN)), False)
        self.assertIs(play_holds(PLAIN, ("ab",), 0, 3, ("plan", PLAN)), True)
        self.assertIs(play_holds(PLAIN, ("a", "ab"), 0, 2, ("refusal", rows)), False)

    def test_each_first_stand_has_a_cell(self):
        rng = random.Random(271)
        found = 0
        for _ in range(300):
            loom, wishes, sight, number = random_play(rng)
            word, rows = judge_play(loom, wishes, sight, number)
            if word == "plan" and len(wishes) > 1:
                found += 1
                noughts = (0,) * len(loom.used)
                for at, row in enumerate(rows):
                    told = play_holds(loom, wishes, sight, number, ("plan", rows[:at] + rows[at + 1:]))
                    self.assertEqual(told, is_right_play_paper(loom, wishes, sight, number, ("plan", rows[:at] + rows[at + 1:])))
                    self.assertFalse(told and row[0] == noughts)
        self.assertGreater(found, 3)

    def test_bad_wishes(self):
        values = [("ac",), ("a", "bc"), ("a", "c"), ("b", "ac"), (), ["ab"], ("",), ("ba",), ("aa",), ("c",), ("ab", "a"), ("a", "a"), ("a", ""), (["a"],), (None,), "ab", ("a", 1), ("A",),
                  (("a",),), ("a\n",), None, {}, ("a", "b", "ab")]
        for value in [*values, *some_values(267, 300)]:
            told = are_right_wishes(PLAIN, value)
            for call, more in ((judge_play, (0, 1)), (can_keep, (0, 1)), (least_kept, (0, 1))):
                if told:
                    call(PLAIN, value, *more)
                else:
                    self.assertIs(raised(self, BadWishes, call, PLAIN, value, *more).thing, value)
            if not told:
                for thing in (None, ("plan", ()), ("plan", PLAN), [PLAIN], {}):
                    self.assertIs(raised(self, BadWishes, play_holds, PLAIN, value, 0, 1, thing).thing, value)

    def test_any_and_changed_papers(self):
        values = some_values(268, 300)
        for loom, wishes, sight, number in ((PLAIN, ("ab",), 0, 1), (PLAIN, ("a", "ab"), 0, 1), (PLAIN, ("ab",), 1, 0)):
            for value in values:
                told = is_right_play_paper(loom, wishes, sight, number, value)
                self.assertIs(play_holds(loom, wishes, sight, number, value), told, value)
        rng = random.Random(269)
        for seed in range(80):
            loom, wishes, sight, number = random_play(rng, 2)
            paper = judge_play(loom, wishes, sight, number)
            if len(paper[1]) > 60:
                continue
            more = [*all_changed(paper), *[(paper[0], rows) for rows in with_another_row(paper[1])]] if len(paper[1]) < 7 else []
            for value in [*changed_values(seed, paper, 40), *more]:
                told = is_right_play_paper(loom, wishes, sight, number, value)
                self.assertIs(play_holds(loom, wishes, sight, number, value), told, value)

    def test_sizes_at_the_limits(self):
        rng = random.Random(270)
        begin = time.monotonic()
        for _ in range(25):
            lifts = tuple(tuple(s for s in range(3) if rng.random() < 0.5) for _ in range(6))
            loom = Loom(3, (0, 1, 2) * 4, lifts)
            wishes = tuple(sorted({"".join(sorted(rng.sample("abcdef", 3))) for _ in range(3)}))
            for sight, number in ((1, 2), (0, 3)):
                paper = judge_play(loom, wishes, sight, number)
                self.assertTrue(is_right_play_paper(loom, wishes, sight, number, paper))
                self.assertIs(play_holds(loom, wishes, sight, number, paper), True)
                _, lost = solved_told(loom, wishes, sight, number)
                starts = [((0, 0, 0), calls) for calls in call_rows(wishes, sight)]
                self.assertEqual(paper[0] == "refusal", any(start in lost for start in starts))
        self.assertLess(time.monotonic() - begin, 60)


if __name__ == "__main__":
    unittest.main()
