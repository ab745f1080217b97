"""The console: the interface of loomhold/console.py."""

import random
import re
import unittest

from loomhold.console import Console
from loomhold.elements import element_of
from loomhold.errors import BadText, InvalidCommand, LoomError, NoName, NothingToRedo, NothingToUndo
from loomhold.looms import Loom
from loomhold.rolls import roll_read, text_of_roll
from loomhold.scripts import chart_of
from tests.helpers import LOOSE, PLAIN, raised, some_values
from tests.test_floats import told_greatest
from tests.test_grips import told_grip
from tests.test_holdpapers import told_lasting
from tests.test_houses import Model, short
from tests.test_rolls import MOST, nested
from tests.test_scripts import told_place

TEXT = "shafts 2;threading 0 1 0 1;lift a 0;lift b 1"
SAME = "shafts 4;threading 0 1 2 3;lift a 0 2;lift b 1 3"
BELOW = "shafts 2;threading 0 1 0 1;lift a 0 1;lift b 1"
OTHER = "shafts 2;threading 0 1;lift a 0;lift b 1;lift c 0 1"
EVERY = Loom(1, (0,), ((),) * 26)


def told_form(command):
    """The parts of a command, told by looking at its form word by word; None for any value that has none."""
    if type(command) is not str or "\n" in command:
        return None
    found = re.fullmatch("(undo|redo|names)|(holds|told|when|stretch|longest|drop) ([a-z]{1,8})", command)
    if found:
        return [found[1]] if found[1] else [found[2], found[3]]
    found = re.fullmatch("(from|grip|floats) ([a-z]{1,8}) ([1-9]|10|11|12|0)", command)
    if found:
        return None if found[1] != "from" and found[3] == "0" else [found[1], found[2], int(found[3])]
    found = re.fullmatch("weave ([a-z]{1,8}) (.*)", command)
    if found:
        try:
            return ["weave", found[1], roll_read(EVERY, found[2])]
        except BadText:
            return None
    found = re.fullmatch("(found|bring) ([a-z]{1,8}) ([^ ]+) (.*)", command)
    if not found or not (found[3] == "-" or told_place(found[3]) is None):
        return None
    try:
        return [found[1], found[2], "" if found[3] == "-" else found[3], Loom.read("\n".join(found[4].split(";")))]
    except BadText:
        return None


def float_told(word, loom):
    return element_of(loom, word).longest_float


class ToldConsole:
    """A console told slowly, by the slow house of the tests."""

    def __init__(self):
        self.model = Model()

    def run(self, command):
        """The answer, or the class of the error."""
        form = told_form(command)
        if form is None:
            return InvalidCommand
        word, parts = form[0], form[1:]
        if word in ("undo", "redo"):
            return self.model.expect(word) or "ok"
        now = self.model.now
        if word == "names":
            return " ".join(sorted(now)) or "-"
        if word != "found" and parts[0] not in now:
            return NoName
        if word in ("found", "bring"):
            name, script, loom = parts
            if not {sign for sign in script if sign.isalpha()} <= set(loom.letters):
                return "no"
            things = (name, loom, chart_of(script, loom.letters))
            return "no" if self.model.expect(word, *things, *([()] if word == "found" else [])) else "ok"
        editions, _, log = now[parts[0]]
        loom, chart = editions[-1]
        if word in ("holds", "from", "grip", "floats"):
            return "no" if self.model.expect("add_promise", parts[0], (word, *parts[1:])) else "ok"
        if word == "weave":
            return "no" if self.model.expect("weave", *parts) else "ok"
        if word == "told":
            return "; ".join(self.told(loom, roll) for roll in log) or "-"
        if word == "drop":
            return self.model.expect("drop", *parts) or "ok"
        number = {"when": told_lasting, "stretch": told_grip, "longest": told_greatest}[word](loom, chart)
        return {"longest": "endless"}.get(word, "never") if number is None else str(number)

    def told(self, loom, roll):
        word = short(roll)
        element = element_of(loom, word)
        return f"{element.picks} {'holds' if element.holds else 'apart'} {element.longest_float}"


def answer(console, command):
    """The answer of a console, or the class of the error that it raises."""
    try:
        return console.run(command)
    except LoomError as error:
        return type(error)


class ConsoleTest(unittest.TestCase):

    def test_examples(self):
        console = Console()
        self.assertEqual(console.run("found t ab(ab)* " + TEXT), "ok")
        self.assertEqual(console.run("weave t ab 1000(ab)"), "ok")
        self.assertEqual(console.run("told t"), "2002 holds 1")
        self.assertEqual(console.run("when t"), "0")
        self.assertEqual(console.run("stretch t"), "2")
        self.assertEqual(console.run("longest t"), "1")
        self.assertEqual(console.run("weave t ac"), "no")
        self.assertEqual(console.run("grip t 1"), "no")
        raised(self, InvalidCommand, console.run, "from t 13")

    def test_each_command(self):
        console = Console()
        rows = [
            ("names", "-"), ("undo", NothingToUndo), ("redo", NothingToRedo), ("told t", NoName), ("found t ab(ab)* " + TEXT, "ok"),
            ("found t ab(ab)* " + TEXT, "no"), ("found u abc " + TEXT, "no"), ("found u - " + TEXT, "ok"), ("names", "t u"), ("told t", "-"),
            ("holds t", "ok"), ("holds u", "no"), ("from t 0", "ok"), ("from u 0", "no"), ("from u 1", "ok"), ("grip t 2", "ok"), ("grip t 1", "no"),
            ("floats t 1", "ok"), ("floats u 12", "ok"), ("weave t ab", "ok"), ("weave t -", "no"), ("weave u -", "ok"), ("weave u a", "no"),
            ("told u", "0 apart 0"), ("weave t 0(ba) ab", "ok"), ("weave t 2(ab 3(ab))", "ok"), ("told t", "2 holds 1; 2 holds 1; 16 holds 1"),
            ("weave t abz", "no"), ("weave t aab", "no"), ("when u", "1"), ("stretch u", "1"), ("longest u", "0"),
            ("bring t abc " + TEXT, "no"), ("bring t ab([a|b])* " + TEXT, "no"), ("bring t ab(ab)* " + BELOW, "no"), ("bring t ab(ab)* " + OTHER, "no"),
            ("bring t ab(ab)*[|c] " + SAME, "no"), ("bring t abab " + SAME, "ok"), ("weave t ab", "no"), ("weave t abab", "ok"), ("undo", "ok"), ("undo", "ok"),
            ("weave t ab", "ok"), ("redo", NothingToRedo), ("drop u", "ok"), ("names", "t"), ("undo", "ok"), ("names", "t u"), ("redo", "ok"),
            ("told u", NoName), ("bring u ab " + TEXT, NoName), ("drop u", NoName), ("found any ([a|b])* " + TEXT, "ok"), ("when any", "never"),
            ("stretch any", "never"), ("longest any", "endless"), ("from any 12", "no"), ("grip any 12", "no"), ("floats any 12", "no"),
            ("weave any " + str(MOST) + "(a) b", "ok"), ("told any", f"{MOST + 1} holds {MOST}"), ("weave any a", "ok"),
            ("told any", f"{MOST + 1} holds {MOST}; 1 apart 1"), ("names", "any t")]
        for command, told in rows:
            self.assertEqual(answer(console, command), told, command)
        self.assertEqual(raised(self, NoName, console.run, command="told u").name, "u")
        self.assertIsInstance(raised(self, NothingToRedo, console.run, "redo"), NothingToRedo)

    def test_the_loom_in_use_tells(self):
        # The new loom has not the letter of a pair that is never woven.
        console = Console()
        for command, told in (("found t ([a|b|c])* " + OTHER, "ok"), ("weave t ab 0(c)", "ok"), ("weave t 3(0(c) ab 2(-))", "ok"), ("weave t 5(0(c))", "ok"),
                              ("told t", "2 holds 1; 6 holds 1; 0 apart 0"), ("bring t ab shafts 2;threading 0 1;lift a 0;lift b 1", "ok"),
                              ("told t", "2 holds 1; 6 holds 1; 0 apart 0"), ("weave t ab 0(c)", "no"), ("weave t ab", "ok"),
                              ("bring t a shafts 3;threading 1 2;lift a 1;lift b 2;lift c", "ok"), ("told t", "2 holds 1; 6 holds 1; 0 apart 0; 2 holds 1")):
            self.assertEqual(answer(console, command), told, command)

    def test_a_letter_for_a_chart(self):
        # The chart of a script is the least one over all letters of the loom.
        console = Console()
        self.assertEqual(console.run("found t a " + OTHER), "ok")
        self.assertEqual(console.run("weave t a"), "ok")
        self.assertEqual(console.run("weave t c"), "no")
        self.assertEqual(console.run("when t"), "2")

    def test_forms(self):
        # Behind the commands that are let none but these forms are commands.
        console, slow = Console(), ToldConsole()
        commands = ["found t ab(ab)* " + TEXT, "bring t ab " + SAME, "holds t", "from t 0", "from t 12", "grip t 2", "floats t 1", "weave t ab 2(ab)",
                    "told t", "when t", "stretch t", "longest t", "drop t", "undo", "redo", "names"]
        tried = 0
        for command in commands:
            words = command.split(" ")
            others = [command + " ", " " + command, command + "\n", "\n" + command, command.upper(), command.capitalize(), command + " t", command + " 1"]
            for at in range(len(words)):
                others.append(" ".join(words[:at] + words[at + 1:]))
                others.append(" ".join(words[:at + 1] + words[at:]))
                others.append(" ".join([*words[:at], "", *words[at:]]))
                others.append("\t".join([" ".join(words[:at]), " ".join(words[at:])]))
                others.append("\n".join([" ".join(words[:at]), " ".join(words[at:])]))
                for word in ("t", "u", "T", "0", "1", "13", "-", "ab", "a;b", "", "told", "undo", "lift", "ninelette", "-1", "+1", "01", "1.0", "a)", "2(ab)"):
                    others.append(" ".join([*words[:at], word, *words[at + 1:]]))
            for other in others:
                self.assertEqual(answer(console, other), slow.run(other), other)
                tried += 1
        self.assertGreater(tried, 1000)

    def test_numbers(self):
        console, slow = Console(), ToldConsole()
        for each in (console, slow):
            each.run("found t ab(ab)* " + TEXT)
        for word in ("from", "grip", "floats"):
            for number in [*range(-3, 16), "00", "01", "+1", "-0", " 1", "1 ", "1_0", "1e1", "\u0661", "\u00b2", "", "x", "12.", "012", 10 ** 30, "9" * 3000]:
                command = f"{word} t {number}"
                self.assertEqual(answer(console, command), slow.run(command), command)

    def test_scripts_looms_and_rolls(self):
        console, slow = Console(), ToldConsole()
        for each in (console, slow):
            each.run("found t ([a|b])* " + TEXT)
        for script in ("-", "", "--", "ab", "[a|]", "[a]", "(a)", "(a)*", "a)", "a b", "A", "c", "[a|c]", "a-", "-a", "()*", "(", "[|]", "([a|b])*", "z"):
            for loom in (TEXT, OTHER, "", "shafts 1;threading 0;lift a", "shafts 1;threading 0", "shafts 1\nthreading 0\nlift a",
                         "shafts 1; threading 0;lift a", "shafts 1;threading 0;lift a;", "shafts 01;threading 0;lift a", "shafts 1;;threading 0;lift a"):
                for word in ("found u", "bring t", "bring u"):
                    command = f"{word} {script} {loom}"
                    self.assertEqual(answer(console, command), slow.run(command), command)
                for each in (console, slow):
                    answer(each, "drop u")
        for roll in ("", "-", "a", "ab ba", "a  b", "2(a)", "2 (a)", "2(a", "2(a))", "02(a)", "2()", "2(-)", "0(c)", "0(z) a", "A", "a-", "- a", "a -",
                     f"{MOST}(a)", f"{MOST + 1}(a)", "(a)", "2(2(2(a)))", text_of_roll(PLAIN, nested(12, ("a",))), "1(" * 13 + "a" + ")" * 13, "a;b", "a b c"):
            for name in ("t", "u", "tt"):
                command = f"weave {name} {roll}"
                self.assertEqual(answer(console, command), slow.run(command), command)
        self.assertEqual(answer(console, "told t").count(";"), slow.run("told t").count(";"))

    def test_errors_in_their_order(self):
        console = Console()
        for command in ("told", "told t t", "from u 13", "weave u", "bring u ab", "bring u (a) " + TEXT, "bring u ab shafts 0", "undo t", "redo ", "names t"):
            raised(self, InvalidCommand, console.run, command)
        for command in ("told u", "from u 12", "weave u ab", "bring u abc " + TEXT, "drop u", "holds u"):
            self.assertEqual(raised(self, NoName, console.run, command).name, "u")
        console.run("found u ab " + TEXT)
        # What cannot be changed leaves all as it was, and what was taken back can still be made again.
        console.run("undo")
        for command in ("told u", "redo x", "undo", "found u c " + TEXT, "found u (a) " + TEXT):
            answer(console, command)
        self.assertEqual(console.run("redo"), "ok")
        self.assertEqual(console.run("names"), "u")

    def test_any_values(self):
        console = Console()
        console.run("found t ab " + TEXT)
        for value in some_values(990, 200):
            if value == "names" and type(value) is str:
                self.assertEqual(console.run(value), "t")
            elif value == "told t" and type(value) is str:
                self.assertEqual(console.run(value), "-")
            elif not (type(value) is str and (value == "undo" or value.startswith("found"))):
                raised(self, InvalidCommand, console.run, value)
        for value in (None, 0, ["names"], ("names",), b"names", PLAIN, Console(), {"names": 1}):
            raised(self, InvalidCommand, console.run, value)

    def test_random_commands(self):
        rng = random.Random(991)
        scripts = ["ab(ab)*", "([a|b])*", "-", "ab", "(ab)*", "ab([a|b])*", "c(ab)*", "[a|b](ab)*", "aab"]
        looms = [TEXT, TEXT, SAME, BELOW, OTHER]
        rolls = ["ab", "-", "ab 3(ab)", "b", "aab", "2(ab 2(ab))", "c", "0(c) ab", "ab 30(ab)"]
        seen = {}
        for _ in range(40):
            console, slow = Console(), ToldConsole()
            for _ in range(60):
                name = rng.choice("tuv")
                command = rng.choice([
                    f"found {name} {rng.choice(scripts)} {rng.choice(looms)}", f"bring {name} {rng.choice(scripts)} {rng.choice(looms)}",
                    f"holds {name}", f"from {name} {rng.randrange(4)}", f"grip {name} {rng.randrange(5)}", f"floats {name} {rng.randrange(3)}",
                    f"weave {name} {rng.choice(rolls)}", f"weave {name} {rng.choice(rolls)}", f"told {name}", f"when {name}", f"stretch {name}",
                    f"longest {name}", "undo", "undo", "redo", "names", f"drop {name}" if rng.random() < 0.5 else "names"])
                told = slow.run(command)
                self.assertEqual(answer(console, command), told, command)
                key = (command.split(" ")[0], told if type(told) is type or told in ("ok", "no", "never", "endless", "-") else "")
                seen[key] = seen.get(key, 0) + 1
        self.assertGreater(len(seen), 40)

    def test_two_consoles(self):
        one, other = Console(), Console()
        one.run("found t ab " + TEXT)
        self.assertEqual((one.run("names"), other.run("names")), ("t", "-"))
        raised(self, NothingToUndo, other.run, "undo")
        self.assertEqual(LOOSE.letters, "abc")


if __name__ == "__main__":
    unittest.main()
