"""All treadlings, and those from some length on: points 23 and 24."""

import itertools
import random
import unittest

from loomhold.charts import Chart
from loomhold.holding import first_fall, spots_met
from loomhold.holdpapers import chart_holds, judge_chart, judge_lasting, last_fall, lasting_holds, lasts_from
from loomhold.looms import Loom
from loomhold.scripts import chart_of
from tests.helpers import (
    LOOSE, PLAIN, all_changed, changed_values, fitting, is_sorted, is_true_int, lets, some_values, treadlings_to, useful_told,
    with_another_row, words_to)
from tests.test_holding import ANY, NONE, ODD, ONCE, TURNS, does_fall


def move_letters(chart):
    return {sign for _, sign, _ in chart.moves}


def is_right_spot(chart, thing):
    if type(thing) is not tuple or len(thing) != 2 or type(thing[0]) is not int or type(thing[1]) is not str:
        return False
    return thing[0] in useful_told(chart) and set(thing[1]) <= move_letters(chart) and is_sorted(thing[1])


def taken(chart, spot):
    """The spots to which moves take a spot."""
    useful = useful_told(chart)
    return [(target, "".join(sorted(set(spot[1]) | {sign}))) for here, sign, target in chart.moves
            if here == spot[0] and target in useful]


def is_right_chart_paper(loom, chart, thing):
    """Tell whether a value is a paper as point 23 words it."""
    if type(thing) is not tuple or len(thing) != 2 or type(thing[0]) is not str:
        return False
    if thing[0] == "falls":
        return type(thing[1]) is str and lets(chart, thing[1]) and does_fall(loom, thing[1])
    lot = thing[1]
    if thing[0] != "all" or type(lot) is not tuple or not all(is_right_spot(chart, item) for item in lot) or not is_sorted(lot):
        return False
    if 0 in useful_told(chart) and (0, "") not in lot:
        return False
    if any(state in chart.ends and does_fall(loom, letters) for state, letters in lot):
        return False
    return all(further in lot for spot in lot for further in taken(chart, spot))


def are_right_rows(chart, rows, starts, below, is_fallen):
    """Tell whether a value is rows as points 24 and 25 word them."""
    if type(rows) is not tuple:
        return False
    for row in rows:
        if type(row) is not tuple or len(row) != 3 or not is_right_spot(chart, row[:2]) or not is_true_int(row[2]) or row[2] < -1:
            return False
    numbers = {row[:2]: row[2] for row in rows}
    if not is_sorted(rows) or len(numbers) != len(rows):
        return False
    if not all(start in numbers and numbers[start] < below for start in starts):
        return False
    for spot, number in numbers.items():
        if is_fallen(spot) and number < 0:
            return False
        for further in taken(chart, spot):
            if further not in numbers or not (numbers[further] == -1 or numbers[further] < number):
                return False
    return True


def led(chart, state, word):
    """The state to which a string leads, None if there is none."""
    for letter in word:
        row = [target for here, sign, target in chart.moves if (here, sign) == (state, letter)]
        if not row:
            return None
        state = row[0]
    return state


def is_right_lasting_paper(loom, chart, thing):
    """Tell whether a value is a paper as point 24 words it."""
    if type(thing) is not tuple or len(thing) == 0 or type(thing[0]) is not str:
        return False
    if thing[0] == "ever" and len(thing) == 4:
        if not all(type(word) is str for word in thing):
            return False
        _, ahead, loop, behind = thing
        state = led(chart, 0, ahead)
        if loop == "" or not set(loop) <= set(ahead) or state is None or led(chart, state, loop) != state:
            return False
        return led(chart, state, behind) in chart.ends and does_fall(loom, ahead + behind)
    if thing[0] != "from" or len(thing) != 3 or not is_true_int(thing[1]) or thing[1] < 0:
        return False
    starts = [(0, "")] if 0 in useful_told(chart) else []
    return are_right_rows(chart, thing[2], starts, thing[1], lambda spot: spot[0] in chart.ends and does_fall(loom, spot[1]))


def falls_by_length(loom, chart, most):
    """For each number of letters how many treadlings fall, counted along states and sets of letters."""
    counts = {(0, ""): 1}
    rows = []
    for _ in range(most + 1):
        rows.append(sum(many for (state, letters), many in counts.items() if state in chart.ends and does_fall(loom, letters)))
        further = {}
        for (state, letters), many in counts.items():
            for here, sign, target in chart.moves:
                if here == state:
                    key = (target, "".join(sorted(set(letters) | {sign})))
                    further[key] = further.get(key, 0) + many
        counts = further
    return rows


def told_lasting(loom, chart):
    """The least number from which on the chart lasts, None if there is none."""
    spots = chart.states * 2 ** len(chart.letters)
    rows = falls_by_length(loom, chart, 2 * spots)
    lengths = [length for length, many in enumerate(rows) if many]
    if not lengths:
        return 0
    # A treadling of as many letters as there are spots comes twice to one, and can go round again.
    return None if lengths[-1] >= spots else lengths[-1] + 1


def all_spots(chart):
    """All spots, met or not."""
    letters = sorted(move_letters(chart))
    rows = ["".join(row) for many in range(len(letters) + 1) for row in itertools.combinations(letters, many)]
    return [(state, row) for state in useful_told(chart) for row in rows]


def numbered(chart, spots, is_fallen):
    """For each of some spots how many letters can still come to a fall, -1 if none can, None if there is no most."""
    numbers = {}
    for spot in spots:
        row = {spot}
        number = -1
        most = len(all_spots(chart))
        for length in range(2 * most):
            if any(is_fallen(other) for other in row):
                number = length
            row = {further for other in row for further in taken(chart, other)}
        numbers[spot] = None if number >= most else number
    return numbers


class ChartPaperTest(unittest.TestCase):

    def test_examples(self):
        chart = chart_of("ab(a)*", "ab")
        paper = ("all", ((0, ""), (1, "a"), (2, "ab")))
        self.assertIs(chart_holds(PLAIN, chart, paper), True)
        self.assertEqual(judge_chart(PLAIN, chart), paper)
        self.assertEqual(judge_chart(PLAIN, TURNS), ("falls", ""))

    def test_without_treadlings(self):
        self.assertEqual(judge_chart(PLAIN, NONE), ("all", ()))
        for thing, told in ((("all", ()), True), (("all", ((0, ""),)), False), (("falls", ""), False), (("all", []), False)):
            self.assertIs(chart_holds(PLAIN, NONE, thing), told)

    def test_one_by_one(self):
        rng = random.Random(211)
        kinds = set()
        for _ in range(300):
            loom, chart = fitting(rng, 3, 3)
            paper = judge_chart(loom=loom, chart=chart)
            self.assertIs(chart_holds(loom, chart, paper), True)
            self.assertTrue(is_right_chart_paper(loom, chart, paper))
            kinds.add(paper[0])
            words = treadlings_to(chart, 5)
            for word in words:
                self.assertIs(chart_holds(loom, chart, thing=("falls", word)), does_fall(loom, word))
            if paper[0] == "falls":
                self.assertEqual(paper[1], first_fall(loom, chart))
                self.assertIs(chart_holds(loom, chart, ("all", spots_met(loom, chart))), False)
            else:
                self.assertFalse(any(does_fall(loom, word) for word in words))
        self.assertEqual(kinds, {"all", "falls"})

    def test_spots_that_are_not_met(self):
        chart = chart_of("ab(a)*", "ab")
        more = ((0, ""), (0, "ab"), (1, "a"), (1, "ab"), (2, "ab"))
        self.assertIs(chart_holds(PLAIN, chart, ("all", more)), True)
        # No spot with an end that falls, and all to which moves take one.
        self.assertIs(chart_holds(PLAIN, chart, ("all", ((0, ""), (1, "a"), (2, "a"), (2, "ab")))), False)
        self.assertIs(chart_holds(PLAIN, chart, ("all", ((0, ""), (0, "a"), (1, "a"), (2, "ab")))), True)
        self.assertIs(chart_holds(PLAIN, chart, ("all", ((0, ""), (0, "b"), (1, "a"), (2, "ab")))), False)
        self.assertIs(chart_holds(PLAIN, chart, ("all", ((0, ""), (0, "b"), (1, "a"), (1, "ab"), (2, "ab")))), True)
        # Letters of moves that are not useful stand in spots, others do not.
        loom = Loom(2, (0, 1), ((0,), (1,), (0,), (1,)))
        chart = Chart("abcd", 4, ((0, "a", 1), (1, "b", 2), (1, "c", 3)), (2,))
        lot = ((0, ""), (1, "a"), (2, "ab"))
        self.assertIs(chart_holds(loom, chart, ("all", lot)), True)
        self.assertIs(chart_holds(loom, chart, ("all", (*lot, (2, "abc")))), True)
        self.assertIs(chart_holds(loom, chart, ("all", (*lot, (2, "abd")))), False)
        self.assertIs(chart_holds(loom, chart, ("all", (*lot, (3, "ac")))), False)

    def test_wrong_ones(self):
        chart = chart_of("ab(a)*", "ab")
        lot = ((0, ""), (1, "a"), (2, "ab"))
        wrong = [("all", lot[1:]), ("all", lot[:2]), ("all", lot[::-1]), ("all", lot + lot[2:]), ("all", list(lot)), ["all", lot],
                 ("all", ((False, ""), *lot[1:])), ("all", (lot[0], (True, "a"), lot[2])), ("all", ([0, ""], *lot[1:])),
                 ("all", ((0, "", 0), *lot[1:])), ("all", lot, ()), ("all",), ("some", lot), ("all", (*lot, (2, "ba"))),
                 ("all", (*lot, (3, "ab"))), ("all", (*lot, (2, "abc"))), ("all", (*lot, (2, "abb"))), ("all", ((-1, ""), *lot)),
                 ("all", (*lot, (10 ** 39, "ab"))), ("all", (*lot, (2, ["a", "b"]))), ("all", ""), ("falls", "ab"), ("falls", "a"),
                 ("falls", ["a"]), ("falls", None), ("falls", ""), lot, None, "all", ("all", ((0, ()), *lot[1:]))]
        for thing in wrong:
            self.assertIs(chart_holds(PLAIN, chart, thing), False, thing)

    def test_longer_words(self):
        self.assertIs(chart_holds(PLAIN, ANY, ("falls", "a" * 60)), True)
        self.assertIs(chart_holds(PLAIN, ANY, ("falls", "a" * 4000)), True)
        self.assertIs(chart_holds(PLAIN, ANY, ("falls", "a" * 60 + "b")), False)
        self.assertIs(chart_holds(PLAIN, ANY, ("falls", "c")), False)
        self.assertIs(chart_holds(LOOSE, ONCE, ("falls", "c" + "ab" * 20)), True)
        self.assertIs(chart_holds(LOOSE, ONCE, ("falls", "ab")), False)

    def test_any_and_changed_papers(self):
        values = some_values(212, 200)
        rng = random.Random(213)
        for loom, chart in ((PLAIN, TURNS), (PLAIN, chart_of("ab(a)*", "ab")), (LOOSE, ANY), (PLAIN, NONE)):
            for value in values:
                self.assertIs(chart_holds(loom, chart, value), is_right_chart_paper(loom, chart, value), value)
        for seed in range(60):
            loom, chart = fitting(rng, 3, 3)
            for paper in (judge_chart(loom, chart), ("all", spots_met(loom, chart))):
                more = [("all", rows) for rows in with_another_row(paper[1])] if paper[0] == "all" else []
                for value in [*changed_values(seed, paper, 30), *all_changed(paper), *more]:
                    self.assertIs(chart_holds(loom, chart, value), is_right_chart_paper(loom, chart, value), value)


class LastingTest(unittest.TestCase):

    def test_examples(self):
        self.assertEqual(lasts_from(PLAIN, TURNS), 1)
        paper = ("from", 1, ((0, "", 0), (0, "ab", -1), (1, "a", -1), (1, "ab", -1)))
        self.assertEqual(judge_lasting(PLAIN, TURNS), paper)
        self.assertIs(lasting_holds(PLAIN, TURNS, paper), True)
        self.assertIsNone(lasts_from(PLAIN, ANY))
        self.assertEqual(judge_lasting(PLAIN, ANY)[0], "ever")
        self.assertIs(lasting_holds(PLAIN, ANY, ("ever", "a", "a", "")), True)
        self.assertIs(lasting_holds(LOOSE, ONCE, ("ever", "cab", "ab", "")), True)
        self.assertIs(lasting_holds(LOOSE, ONCE, ("ever", "c", "ab", "")), False)

    def test_without_treadlings(self):
        self.assertEqual(lasts_from(PLAIN, NONE), 0)
        self.assertIsNone(last_fall(PLAIN, NONE))
        self.assertEqual(judge_lasting(PLAIN, NONE), ("from", 0, ()))
        for n in (0, 1, 10 ** 39):
            self.assertIs(lasting_holds(PLAIN, NONE, ("from", n, ())), True)
        for thing in (("from", -1, ()), ("from", 0, ((0, "", -1),)), ("from", False, ()), ("from", 0, []), ("ever", "", "a", "")):
            self.assertIs(lasting_holds(PLAIN, NONE, thing), False)

    def test_nothing_falls(self):
        chart = chart_of("ab(a)*", "ab")
        self.assertEqual(lasts_from(loom=PLAIN, chart=chart), 0)
        self.assertIsNone(last_fall(loom=PLAIN, chart=chart))
        self.assertEqual(judge_lasting(loom=PLAIN, chart=chart), ("from", 0, ((0, "", -1), (1, "a", -1), (2, "ab", -1))))

    def test_falls_behind_spots_that_do_not_fall(self):
        chart = chart_of("ab[|aa[|c]]", "abc")
        self.assertEqual(lasts_from(LOOSE, chart), 6)
        self.assertEqual(last_fall(LOOSE, chart), "abaac")
        paper = judge_lasting(LOOSE, chart)
        self.assertEqual(paper[:2], ("from", 6))
        self.assertEqual([row[2] for row in paper[2] if row[:2] == (0, "")], [5])
        self.assertIs(lasting_holds(LOOSE, chart, paper), True)

    def test_the_first_of_the_longest(self):
        chart = chart_of("[b|a][b|a][a|b]", "ab")
        self.assertEqual(last_fall(PLAIN, chart), "aaa")
        self.assertEqual(last_fall(PLAIN, chart_of("[bb|aa|a]", "ab")), "aa")
        self.assertEqual(lasts_from(PLAIN, chart), 4)
        self.assertIsNone(last_fall(PLAIN, ANY))

    def test_useful_moves_alone(self):
        loom = Loom(2, (0, 1), ((0,), (1,), (), (0, 1)))
        self.assertEqual(lasts_from(loom, ODD), 1)
        self.assertEqual(judge_lasting(loom, ODD), ("from", 1, ((0, "", 0), (0, "ab", -1), (1, "a", -1), (1, "ab", -1))))

    def test_one_by_one(self):
        rng = random.Random(221)
        told = {}
        for _ in range(300):
            loom, chart = fitting(rng, 3, 2)
            number = told_lasting(loom, chart)
            told[number] = told.get(number, 0) + 1
            self.assertEqual(lasts_from(loom, chart), number)
            paper = judge_lasting(loom, chart)
            self.assertIs(lasting_holds(loom, chart, paper), True)
            self.assertTrue(is_right_lasting_paper(loom, chart, paper))
            falls = [word for word in treadlings_to(chart, 10) if does_fall(loom, word)]
            if number is None:
                self.assertEqual(paper[0], "ever")
                self.assertIsNone(last_fall(loom, chart))
                _, ahead, loop, behind = paper
                for many in range(4):
                    word = ahead + loop * many + behind
                    self.assertTrue(lets(chart, word) and does_fall(loom, word))
                continue
            self.assertEqual(paper[:2], ("from", number))
            if number > 0:
                self.assertIs(lasting_holds(loom, chart, ("from", number - 1, paper[2])), False)
                self.assertEqual(last_fall(loom, chart), [word for word in falls if len(word) == number - 1][0])
            else:
                self.assertIsNone(last_fall(loom, chart))
        self.assertGreater(min(told.get(number, 0) for number in (None, 0, 1, 2)), 3)

    def test_numbers_are_the_least_ones(self):
        rng = random.Random(222)
        for _ in range(120):
            loom, chart = fitting(rng, 3, 2)
            paper = judge_lasting(loom, chart)
            if paper[0] == "from":
                is_fallen = lambda spot: spot[0] in chart.ends and does_fall(loom, spot[1])
                numbers = {row[:2]: row[2] for row in paper[2]}
                self.assertEqual(set(numbers), set(spots_met(loom, chart)))
                self.assertEqual(numbers, numbered(chart, list(numbers), is_fallen))

    def test_never_both(self):
        rng = random.Random(223)
        words = words_to("ab", 2)
        for _ in range(60):
            loom, chart = fitting(rng, 3, 2)
            paper = judge_lasting(loom, chart)
            rings = [("ever", *row) for row in itertools.product(words_to("ab", 3), words, words)]
            found = [ring for ring in rings if lasting_holds(loom, chart, ring)]
            self.assertEqual(found, [ring for ring in rings if is_right_lasting_paper(loom, chart, ring)])
            if paper[0] == "from":
                self.assertEqual(found, [])

    def test_papers_of_others(self):
        rng = random.Random(224)
        many = 0
        for _ in range(120):
            loom, chart = fitting(rng, 3, 2)
            paper = judge_lasting(loom, chart)
            if paper[0] == "ever":
                _, ahead, loop, behind = paper
                for other in (("ever", ahead + loop, loop, behind), ("ever", ahead, loop * 3, behind),
                              ("ever", ahead, loop, loop + behind)):
                    self.assertIs(lasting_holds(loom, chart, other), True)
                continue
            is_fallen = lambda spot: spot[0] in chart.ends and does_fall(loom, spot[1])
            number, rows = paper[1:]
            # Greater numbers, for all rows or for those from which something falls, and a greater n.
            far = 10 ** 30
            for more in (7, far):
                greater = tuple((*row[:2], row[2] + more if row[2] >= 0 else -1) for row in rows)
                self.assertIs(lasting_holds(loom, chart, ("from", number + more, greater)), True)
                self.assertIs(lasting_holds(loom, chart, ("from", number + more, rows)), True)
                if number > 0:
                    self.assertIs(lasting_holds(loom, chart, ("from", number + more - 1, greater)), False)
            # Spots that are not met, but for those from which there are ever longer falls.
            numbers = numbered(chart, all_spots(chart), is_fallen)
            lot = [(*spot, told) for spot, told in numbers.items() if told is not None]
            self.assertIs(lasting_holds(loom, chart, ("from", number, tuple(sorted(lot)))), True)
            many += len(lot) > len(rows)
        self.assertGreater(many, 20)

    def test_rows_that_end_too_early(self):
        # A spot that falls cannot have -1, and what stands behind a row has a lesser number or -1.
        chart = chart_of("a[|a[|a]]", "ab")
        rows = judge_lasting(PLAIN, chart)[2]
        self.assertEqual(rows, ((0, "", 3), (1, "a", 2), (2, "a", 1), (3, "a", 0)))
        for numbers, told in (((3, 2, 1, 0), True), ((9, 5, 4, 0), True), ((3, 2, 1, -1), False), ((3, 2, 0, 0), False),
                              ((2, 2, 1, 0), False), ((3, 1, 1, 0), False), ((-1, 2, 1, 0), False), ((3, 2, 1, -2), False)):
            thing = ("from", 10, tuple((*row[:2], number) for row, number in zip(rows, numbers)))
            self.assertIs(lasting_holds(PLAIN, chart, thing), told, numbers)
        self.assertIs(lasting_holds(PLAIN, chart, ("from", 4, rows)), True)
        self.assertIs(lasting_holds(PLAIN, chart, ("from", 3, rows)), False)

    def test_rows_from_which_nothing_falls(self):
        # 0 may stand where nothing falls, and the rows behind it have -1 then.
        rows = ((0, "", 0), (1, "a", -1), (2, "ab", -1))
        chart = chart_of("ab", "ab")
        self.assertIs(lasting_holds(PLAIN, chart, ("from", 1, rows)), True)
        self.assertIs(lasting_holds(PLAIN, chart, ("from", 0, rows)), False)
        self.assertIs(lasting_holds(PLAIN, chart, ("from", 1, ((0, "", 0), (1, "a", 0), (2, "ab", -1)))), False)
        self.assertIs(lasting_holds(PLAIN, chart, ("from", 2, ((0, "", 1), (1, "a", 0), (2, "ab", -1)))), True)

    def test_wrong_ones(self):
        rows = ((0, "", 0), (0, "ab", -1), (1, "a", -1), (1, "ab", -1))
        wrong = [("from", 1, rows[1:]), ("from", 1, rows[:3]), ("from", 1, rows[::-1]), ("from", 1, rows + rows[3:]), ("from", 0, rows),
                 ("from", True, rows), ("from", "1", rows), ("from", -1, rows), ("from", 1, list(rows)), ["from", 1, rows], ("from", 1),
                 ("from", rows, 1), ("from", 1, ((0, "", False), *rows[1:])), ("from", 1, ((False, "", 0), *rows[1:])),
                 ("from", 1, (rows[0], (0, "ab", -1), (0, "ab", 0), *rows[2:])), ("from", 1, ([0, "", 0], *rows[1:])),
                 ("from", 1, ((0, "", 0, 0), *rows[1:])), ("from", 1, ((0, "", -1), *rows[1:])), ("from", 1, rows, ()), ("grip", 1, rows),
                 ("ever", "", "ab", ""), ("ever", "ab", "ab", ""), ("ever", "ab", "", ""), ("ever", "", "", ""), ("ever", "ab", "a", ""),
                 ("ever", "ab", "ab", "a"), ("ever", ["a"], "ab", ""), ("ever", "a", "ba", []), ("ever", "a", "ba"), None, rows]
        for thing in wrong:
            self.assertIs(lasting_holds(PLAIN, TURNS, thing=thing), False, thing)
        for thing in (("ever", "a", "b", ""), ("ever", "a", "", ""), ("ever", "", "a", "a"), ("ever", "a", "a", "b"), ["ever", "a", "a", ""],
                      ("ever", "a", "a", "", ""), ("ever", "a", ["a"], ""), ("ever", "a", "a", None), ("ever", "c", "c", "")):
            self.assertIs(lasting_holds(PLAIN, ANY, thing), False, thing)
        # ahead has to lead back to the state by the loop, and behind has to come to an end.
        chart = chart_of("a(aa)*", "ab")
        self.assertIs(lasting_holds(PLAIN, chart, ("ever", "a", "aa", "")), True)
        self.assertIs(lasting_holds(PLAIN, chart, ("ever", "a", "aaa", "")), False)
        self.assertIs(lasting_holds(PLAIN, chart, ("ever", "aa", "aa", "")), False)
        self.assertIs(lasting_holds(PLAIN, chart, ("ever", "aa", "aa", "a")), True)

    def test_any_and_changed_papers(self):
        values = some_values(225, 200)
        rng = random.Random(226)
        for loom, chart in ((PLAIN, TURNS), (PLAIN, ANY), (LOOSE, ONCE), (PLAIN, NONE)):
            for value in values:
                self.assertIs(lasting_holds(loom, chart, value), is_right_lasting_paper(loom, chart, value), value)
        for seed in range(80):
            loom, chart = fitting(rng, 3, 2)
            paper = judge_lasting(loom, chart)
            more = [(*paper[:2], rows) for rows in with_another_row(paper[2])] if paper[0] == "from" else []
            for value in [*changed_values(seed, paper, 40), *all_changed(paper), *more]:
                self.assertIs(lasting_holds(loom, chart, value), is_right_lasting_paper(loom, chart, value), value)

    def test_sizes_at_the_limits(self):
        rng = random.Random(227)
        loom = Loom(4, (0, 1, 2, 3) * 3, ((0, 1), (1, 2), (2, 3), (0, 3)))
        for _ in range(15):
            moves = tuple((s, x, rng.randrange(6)) for s in range(6) for x in "abcd" if rng.random() < 0.6)
            chart = Chart("abcd", 6, moves, (5,))
            for paper, check in ((judge_chart(loom, chart), chart_holds), (judge_lasting(loom, chart), lasting_holds)):
                self.assertIs(check(loom, chart, paper), True)
            self.assertEqual(lasts_from(loom, chart), told_lasting(loom, chart))


if __name__ == "__main__":
    unittest.main()
