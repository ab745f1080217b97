"""Findings: point 65."""

import random
import unittest

from loomhold.chartpapers import judge_alike
from loomhold.charts import Chart
from loomhold.clauses import judge_stripes
from loomhold.cloths import Cloth
from loomhold.drafts import unlike_paper
from loomhold.errors import BadText
from loomhold.findings import finding_holds
from loomhold.floatpapers import judge_floats, judge_within
from loomhold.generations import judge_generations, judge_grown_floats
from loomhold.grips import judge_grip
from loomhold.growing import Growth
from loomhold.holdpapers import judge_chart, judge_lasting
from loomhold.levels import judge_holding
from loomhold.looms import Loom
from loomhold.mending import judge_mend
from loomhold.patterns import judge_same, judge_strands
from loomhold.pegs import judge_pegs
from loomhold.pictures import Picture
from loomhold.playpapers import judge_play
from loomhold.rolls import roll_read
from loomhold.scripts import chart_of
from loomhold.shelves import first_broken
from tests import test_chartpapers, test_levels, test_mending, test_pegs
from tests.helpers import LOOSE, PLAIN, all_changed, changed_values, fits, fitting, is_true_int, random_cloth, random_value, some_values
from tests.test_clauses import is_right_stripes_paper
from tests.test_drafts import is_right_unlike
from tests.test_floatpapers import is_right_floats_paper, is_right_within_paper
from tests.test_generations import holding, is_right_paper as is_right_round_paper, within
from tests.test_grips import is_right_grip_paper
from tests.test_growing import DOUBLING, FIBO, TURNS as TURN_GROWTH
from tests.test_holding import ANY, ODD, ONCE, TURNS
from tests.test_holdpapers import is_right_chart_paper, is_right_lasting_paper
from tests.test_patterns import CHECK, ODD as ODD_CLOTH, is_right_same_paper, is_right_strands_paper
from tests.test_playpapers import are_right_wishes, is_right_play_paper
from tests.test_rolls import MOST, told_apart
from tests.test_shelves import all_promises, is_right_broken_paper, is_right_promise

EVEN = chart_of("ab(ab)*", "ab")


def read(kind, text):
    """What a value is the text of, None if it is the text of none."""
    try:
        return kind.read(text)
    except BadText:
        return None


def flat_words(loom, text):
    """The flat roll that a value is the text of, with its treadling, great times made small; None without one."""
    try:
        roll = roll_read(loom, text)
    except BadText:
        return None
    if any(isinstance(item, tuple) and any(isinstance(part, tuple) for part in item[1]) for item in roll):
        return None
    return "".join(item if isinstance(item, str) else "".join(item[1]) * item[0] for item in roll)


def is_right_finding(thing):
    """Tell whether a value is a finding that holds, by the slow ways of telling of each part."""
    if type(thing) is not tuple or len(thing) == 0 or type(thing[0]) is not str:
        return False
    word, parts, paper = thing[0], thing[1:-1], thing[-1]
    if word in ("cloth", "strands", "mend", "unlike") and len(parts) == 1:
        cloth = read(Cloth, parts[0])
        check = {"cloth": test_levels.is_right_paper, "strands": is_right_strands_paper, "mend": test_mending.is_right_paper,
                 "unlike": is_right_unlike}[word]
        return cloth is not None and check(cloth, paper)
    if word == "pattern" and len(parts) == 2:
        cloths = [read(Cloth, part) for part in parts]
        return None not in cloths and is_right_same_paper(*cloths, paper)
    if word == "alike" and len(parts) == 2:
        charts = [read(Chart, part) for part in parts]
        return None not in charts and test_chartpapers.is_right_paper(*charts, paper)
    if word == "stripes" and len(parts) == 1:
        picture = read(Picture, parts[0])
        return picture is not None and is_right_stripes_paper(picture, (), paper)
    if word in ("generations", "grown floats") and len(parts) == (1 if word == "generations" else 2):
        growth = read(Growth, parts[0])
        if growth is None or (len(parts) == 2 and (not is_true_int(parts[1]) or parts[1] < 0)):
            return False
        if len(parts) == 1:
            return is_right_round_paper(growth, paper, holding, 1)
        return is_right_round_paper(growth, paper, within(parts[1]), parts[1] + 1)
    loom = read(Loom, parts[0]) if parts else None
    if loom is None:
        return False
    if word == "one treadling" and len(parts) == 2:
        words = [flat_words(loom, part) for part in thing[2:]]
        return None not in words and told_apart(*words) is None
    if word == "play" and len(parts) == 4:
        _, wishes, sight, number = parts
        if not are_right_wishes(loom, wishes) or not all(is_true_int(part) and part >= 0 for part in (sight, number)):
            return False
        return is_right_play_paper(loom, wishes, sight, number, paper)
    chart = read(Chart, parts[1]) if len(parts) > 1 else None
    if chart is None or not fits(loom, chart):
        return False
    if word in ("all", "lasting", "grip", "floats", "pegs", "late pegs") and len(parts) == 2:
        check = {"all": is_right_chart_paper, "lasting": is_right_lasting_paper, "grip": is_right_grip_paper, "floats": is_right_floats_paper,
                 "pegs": lambda *things: test_pegs.is_right_paper(*things, False, 2),
                 "late pegs": lambda *things: test_pegs.is_right_paper(*things, True, 2)}[word]
        return check(loom, chart, paper)
    if word == "within" and len(parts) == 3:
        return is_true_int(parts[2]) and parts[2] >= 0 and is_right_within_paper(loom, chart, parts[2], paper)
    if word == "broken" and len(parts) == 3:
        return is_right_promise(parts[2]) and is_right_broken_paper(loom, chart, parts[2], paper)
    return False


def are_within_limits(thing):
    """Tell whether the numbers of a finding are such as the parts let: else nothing is promised."""
    if type(thing) is tuple and len(thing) > 2 and type(thing[0]) is str:
        numbers = {"within": thing[3:4], "grown floats": thing[2:3], "play": thing[3:5], "broken": thing[3:4]}.get(thing[0], ())
        for number in numbers:
            row = number if type(number) is tuple else (number,)
            if any(type(part) is int and part > (5 if thing[0] == "grown floats" else 2 if thing[0] == "play" else 40) for part in row):
                return False
    return True


def findings_of(loom, chart):
    """The findings of a loom and a chart, of each kind."""
    texts = (str(loom), str(chart))
    row = [("all", *texts, judge_chart(loom, chart)), ("lasting", *texts, judge_lasting(loom, chart)),
           ("grip", *texts, judge_grip(loom, chart)), ("floats", *texts, judge_floats(loom, chart)),
           ("within", *texts, 0, judge_within(loom, chart, 0)), ("within", *texts, 3, judge_within(loom, chart, 3)),
           ("pegs", *texts, judge_pegs(loom, chart)), ("late pegs", *texts, judge_pegs(loom, chart, late=True))]
    for promise in all_promises(3):
        broken = first_broken(loom, chart, (promise,))
        if broken is not None:
            row.append(("broken", *texts, *broken))
    return row


def some_findings():
    """A finding that holds of each kind."""
    rows = ("ab 3(ab)", "4(ab)")
    growths = [("generations", str(growth), judge_generations(growth)) for growth in (FIBO, DOUBLING, TURN_GROWTH)]
    floats = [("grown floats", str(FIBO), d, judge_grown_floats(FIBO, d)) for d in (0, 1, 2)]
    return [
        ("cloth", str(CHECK), judge_holding(CHECK)), ("cloth", str(ODD_CLOTH), judge_holding(ODD_CLOTH)),
        ("alike", str(TURNS), str(EVEN), judge_alike(TURNS, EVEN)), ("alike", str(EVEN), str(EVEN), judge_alike(EVEN, EVEN)),
        ("alike", str(ODD), str(ONCE), judge_alike(ODD, ONCE)), ("one treadling", str(PLAIN), *rows), ("one treadling", str(PLAIN), "-", "0(ab) 5(-)"),
        ("play", str(PLAIN), ("ab",), 0, 1, judge_play(PLAIN, ("ab",), 0, 1)),
        ("play", str(PLAIN), ("a", "ab"), 1, 1, judge_play(PLAIN, ("a", "ab"), 1, 1)),
        ("stripes", "dl\nld", judge_stripes(Picture(("dl", "ld")))), ("stripes", "d.", judge_stripes(Picture(("d.",)))),
        ("stripes", "dd\nld\nll", judge_stripes(Picture(("dd", "ld", "ll")))),
        ("pattern", str(CHECK), "-x\nx-", judge_same(CHECK, Cloth(("-x", "x-")))), ("pattern", str(CHECK), "xx", judge_same(CHECK, Cloth(("xx",)))),
        ("strands", str(CHECK), judge_strands(CHECK)), ("strands", str(ODD_CLOTH), judge_strands(ODD_CLOTH)), *growths, *floats,
        ("mend", str(CHECK), judge_mend(CHECK)), ("mend", "xx\nxx", judge_mend(Cloth(("xx", "xx")))), ("unlike", str(CHECK), unlike_paper(CHECK)),
        *findings_of(PLAIN, EVEN), *findings_of(PLAIN, ANY), *findings_of(LOOSE, ONCE)]


class FindingsTest(unittest.TestCase):

    def check(self, thing):
        if are_within_limits(thing):
            self.assertIs(finding_holds(thing), is_right_finding(thing), thing)

    def test_all_kinds(self):
        kinds = set()
        for thing in some_findings():
            self.assertIs(finding_holds(thing), True, thing)
            self.assertTrue(is_right_finding(thing), thing)
            kinds.add(thing[0])
        self.assertEqual(kinds, {
            "cloth", "alike", "one treadling", "all", "lasting", "grip", "floats", "within", "play", "stripes", "pattern", "strands", "generations",
            "grown floats", "mend", "pegs", "late pegs", "unlike", "broken"})
        self.assertIs(finding_holds(thing=("cloth", "x-\n-x", judge_holding(CHECK))), True)

    def test_papers_of_other_kinds(self):
        row = some_findings()
        held = 0
        for one in row:
            for other in row:
                for thing in ((*one[:-1], other[-1]), (other[0], *one[1:])):
                    right = is_right_finding(thing)
                    self.assertIs(finding_holds(thing), right, thing)
                    held += right
        self.assertGreater(held, len(row))

    def test_random_ones(self):
        rng = random.Random(980)
        for _ in range(12):
            loom, chart = fitting(rng, 3, 2, 2)
            for thing in findings_of(loom, chart):
                self.assertIs(finding_holds(thing), True, thing)
            cloth, other = random_cloth(rng, 3, 3), random_cloth(rng, 3, 3)
            for thing in (("cloth", str(cloth), judge_holding(cloth)), ("mend", str(cloth), judge_mend(cloth)), ("unlike", str(cloth), unlike_paper(cloth)),
                          ("strands", str(cloth), judge_strands(cloth)), ("pattern", str(cloth), str(other), judge_same(cloth, other))):
                self.assertIs(finding_holds(thing), thing[2] is not None, thing)

    def test_texts_that_are_none(self):
        for thing in some_findings():
            for at in range(1, len(thing)):
                if type(thing[at]) is not str:
                    continue
                text = thing[at]
                for other in (text + "\n", text + " ", " " + text, "\n" + text, text.upper(), text[:-1], text.replace(" ", "  ", 1), text.encode(),
                              [text], (text,), None, 0, "", text.replace("\n", ";")):
                    self.check((*thing[:at], other, *thing[at + 1:]))
        for thing, kind in ((("cloth", CHECK, judge_holding(CHECK)), "x"), (("all", PLAIN, str(EVEN), judge_chart(PLAIN, EVEN)), "x"),
                            (("all", str(PLAIN), EVEN, judge_chart(PLAIN, EVEN)), "x"), (("one treadling", str(PLAIN), ("ab",), ("ab",)), "x"),
                            (("one treadling", str(PLAIN), "ab", ("ab",)), "x"), (("generations", FIBO, ("broken", 0)), "x"),
                            (("stripes", Picture(("dl", "ld")), judge_stripes(Picture(("dl", "ld")))), "x")):
            self.assertEqual(kind, "x")
            self.assertIs(finding_holds(thing), False)

    def test_parts_left_out_or_more(self):
        for thing in some_findings():
            self.assertIs(finding_holds(list(thing)), False)
            for at in range(len(thing)):
                self.check(thing[:at] + thing[at + 1:])
                self.check(thing[:at + 1] + thing[at:])
                self.check((*thing[:at], None, *thing[at:]))
                self.check((*thing[:at], None, *thing[at + 1:]))
            self.check((thing[0].upper(), *thing[1:]))
            self.check((thing[0] + " ", *thing[1:]))
            self.check((*thing, thing[-1]))
        for thing in ((), ("cloth",), ("cloth", "x"), ("nothing", "x", ()), "cloth", ["cloth", "x", ()], (0, "x", ()), (["cloth"], "x", ()), ({}, "x", ())):
            self.assertIs(finding_holds(thing), False)

    def test_charts_of_other_looms(self):
        for word, judge in (("all", judge_chart), ("lasting", judge_lasting), ("grip", judge_grip), ("floats", judge_floats)):
            paper = judge(LOOSE, ONCE)
            self.assertIs(finding_holds((word, str(LOOSE), str(ONCE), paper)), True)
            self.assertIs(finding_holds((word, str(PLAIN), str(ONCE), paper)), False)
        self.assertIs(finding_holds(("within", str(PLAIN), str(ODD), 3, ("within", 0, ()))), False)
        self.assertIs(finding_holds(("broken", str(PLAIN), str(ONCE), ("holds",), ("falls", "c"))), False)
        self.assertIs(finding_holds(("broken", str(LOOSE), str(ONCE), ("holds",), ("falls", "c"))), True)
        # Letters that no move has are let, also of a move that is not useful they have to be letters of the loom.
        chart = Chart("abz", 1, ((0, "a", 0),), (0,))
        self.assertIs(finding_holds(("all", str(PLAIN), str(chart), ("falls", "a"))), True)
        chart = Chart("abz", 2, ((0, "a", 0), (0, "z", 1)), (0,))
        self.assertIs(finding_holds(("all", str(PLAIN), str(chart), ("falls", "a"))), False)

    def test_one_treadling(self):
        text = str(PLAIN)
        for one, other, right in ((f"{MOST}(ab)", f"ab {MOST - 1}(ab)", True), (f"{MOST}(ab)", f"a {MOST - 1}(ba) b", True), ("ab", "aa", False),
                                  (f"{MOST}(ab)", f"{MOST - 1}(ab)", False), ("-", "-", True), ("-", "0(ab)", True), ("2(2(ab))", "4(ab)", False),
                                  ("4(ab)", "2(2(ab))", False), ("2(2(ab))", "2(2(ab))", False), ("0(0(ab))", "-", False), ("ac", "ac", False),
                                  ("ab", "0(c) ab", False), (f"{MOST + 1}(a)", f"{MOST + 1}(a)", False), ("a b a b", "2(a b)", True),
                                  ("3(-)", "-", True), ("3()", "-", False), ("01(a)", "a", False), ("a  b", "ab", False)):
            self.assertIs(finding_holds(("one treadling", text, one, other)), right, (one, other))
            self.assertIs(finding_holds(("one treadling", text, other, one)), right, (one, other))

    def test_numbers(self):
        for number in (0, 1, 2, 3, -1, True, False, "1", None, (1,)):
            self.check(("within", str(PLAIN), str(EVEN), number, judge_within(PLAIN, EVEN, 1)))
            self.check(("grown floats", str(FIBO), number, ("kept", 4, 2)))
            self.check(("grown floats", str(FIBO), number, ("broken", 3)))
            self.check(("play", str(PLAIN), ("ab",), 0, number, judge_play(PLAIN, ("ab",), 0, 1)))
            self.check(("play", str(PLAIN), ("ab",), number, 1, judge_play(PLAIN, ("ab",), 0, 1)))
        for wishes in (("ab",), ["ab"], (), ("ba",), ("ac",), "ab", None, ("ab", "a"), ("a", "ab"), ({},)):
            self.check(("play", str(PLAIN), wishes, 0, 1, judge_play(PLAIN, ("ab",), 0, 1)))
            self.check(("play", str(PLAIN), wishes, 0, 1, judge_play(PLAIN, ("a", "ab"), 0, 1)))
        # Numbers beyond the limits: nothing is promised, but an answer comes.
        for number in (10 ** 30, 10 ** 39):
            for paper in (judge_play(PLAIN, ("ab",), 0, 1), judge_play(PLAIN, ("a", "ab"), 0, 1), ("plan", ()), ("refusal", ())):
                self.assertIs(finding_holds(("play", str(PLAIN), ("ab",), number, 1, paper)), False)
                self.assertIs(finding_holds(("play", str(PLAIN), ("a", "ab"), number, 1, paper)), False)
        calls = ("ab",) * 301
        self.assertIs(finding_holds(("play", str(PLAIN), ("a", "ab"), 300, 1, ("plan", (((0, 0), calls, "a"),)))), False)

    def test_broken_promises(self):
        texts = (str(PLAIN), str(ANY))
        for promise, paper, right in (
                (("holds",), ("falls", ""), True), (("holds",), ("falls", "a"), True), (("holds",), ("falls", "ab"), False),
                (("from", 3), ("falls", "aaa"), True), (("from", 3), ("falls", "aa"), False), (("from", 3), ("falls", "aab"), False),
                (("grip", 2), ("slips", "aa"), True), (("grip", 2), ("slips", "a"), False), (("grip", 2), ("slips", "aaa"), False),
                (("grip", 2), ("slips", "ab"), False), (("floats", 2), ("beyond", "aaa", 1, "down", 0), True), (("floats", 3), ("beyond", "aaa", 1, "down", 0), False),
                (("floats", 1), ("weft", "a"), False), (("floats", 1), ("within", 0, ()), False), (("floats", 2), ("falls", "a"), False),
                (("holds",), ("slips", "a"), False), (("grip", 1), ("falls", "a"), False), (("grip", 0), ("slips", ""), False),
                (("from", -1), ("falls", ""), False), (["holds"], ("falls", ""), False), (("from", True), ("falls", "a"), False)):
            thing = ("broken", *texts, promise, paper)
            self.assertIs(finding_holds(thing), right, thing)
            self.assertIs(is_right_finding(thing), right)
        wide = Loom(2, (0, 0, 1, 0, 0, 0), ((0,), ()))
        for letter, number, right in (("a", 2, True), ("a", 3, False), ("b", 5, True), ("b", 6, False), ("c", 1, False), ("", 1, False), (["a"], 1, False),
                                      ("ab", 1, False), (None, 1, False)):
            self.assertIs(finding_holds(("broken", str(wide), str(ANY), ("floats", number), ("weft", letter))), right)
        chart = chart_of("a", "ab")
        self.assertIs(finding_holds(("broken", str(wide), str(chart), ("floats", 1), ("weft", "b"))), False)
        # That the floats of the ends are within the number shows no broken promise, though those of the picks are not.
        paper = judge_within(wide, chart, 1)
        self.assertEqual(paper[:2], ("within", 1))
        self.assertIs(finding_holds(("within", str(wide), str(chart), 1, paper)), True)
        self.assertIs(finding_holds(("broken", str(wide), str(chart), ("floats", 1), paper)), False)
        self.assertIs(finding_holds(("broken", str(wide), str(chart), ("floats", 1), ("weft", "a"))), True)

    def test_any_and_changed_ones(self):
        rng = random.Random(981)
        for value in some_values(982, 300):
            self.check(value)
        for number, thing in enumerate(some_findings()):
            for value in [*changed_values(number, thing, 40), *[(*thing[:-1], random_value(rng)) for _ in range(20)]]:
                self.check(value)
            if len(repr(thing)) < 1200:
                for value in all_changed(thing[-1]):
                    self.check((*thing[:-1], value))

    def test_great_parts(self):
        # Texts of charts with very many states, and numbers of very many figures, are read.
        great = f"chart {10 ** 40}\nletters a\nends 0\nmove 0 a {10 ** 39}"
        self.assertIs(finding_holds(("all", str(PLAIN), great, ("falls", ""))), True)
        self.assertIs(finding_holds(("alike", great, great, ("alike", ((0, 0), (10 ** 39, 10 ** 39))))), True)
        self.assertIs(finding_holds(("all", "shafts " + "9" * 3990, great, ("falls", ""))), False)


if __name__ == "__main__":
    unittest.main()
