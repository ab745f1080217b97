"""What the tests share: looms and charts of the document, any values, changed papers, and slow right answers."""

import random

from loomhold.beams import Beam
from loomhold.callers import Caller
from loomhold.charts import Chart
from loomhold.cloths import Cloth
from loomhold.console import Console
from loomhold.elements import element_of
from loomhold.errors import BadLoom
from loomhold.growing import Growth
from loomhold.houses import House
from loomhold.looms import Loom
from loomhold.pictures import Picture
from loomhold.scripts import chart_of
from loomhold.treadlers import Treadler

PLAIN = Loom(2, (0, 1, 0, 1), ((0,), (1,)))
DOUBLE = Loom(4, (0, 1, 2, 3), ((0,), (1,), (0, 1, 2), (0, 1, 3)))
LOOSE = Loom(2, (0, 1), ((0,), (1,), (0, 1)))
SPARE = Loom(4, (3, 1, 3, 0), ((1, 3), (0, 2), (), (0, 1, 3)))


def deep(value, depth, kind):
    """A value within so many tuples or lists."""
    for _ in range(depth):
        value = kind([value])
    return value


FIXED_VALUES = (
    None, True, False, 0, 1, -1, 2, -2, 99, 100, 10 ** 30, 10 ** 30 + 1, 10 ** 39, -10 ** 39,
    "", "a", "b", "ab", "ba", "aa", "x", "-", "x-", "0", "1", " ", "\n", "A", "%", "()", "[]", "[a|b]", "(a)*",
    "end", "pick", "holds", "apart", "alike", "parted", "a" * 4000, "(" * 4000, "1(" * 2000, "x" * 3999 + "\n",
    "9" * 4000, "shafts " + "9" * 3000,
    (), ((),), [], [()], {}, {"a": 1}, {1: []}, {(): {}}, (0,), (1, 0), (0, 1), (True,), (False, True), ("a",), ["a"],
    ("", ""), (None,), ([],), ({},), ((), ()), (0, "a", 0), (0, "a", True), [0, "a", 0], ("end", 0), ("end", True),
    ("pick", 0), ["end", 0], ("end", 0, 0), ("end",), (2, ("a",)), (True, ("a",)), (-1, ("a",)), [2, ("a",)],
    ("holds", ()), ("holds", []), ("apart", ()), ("apart", None), ("alike", ((0, 0),)), ("parted", ""), ("parted", None),
    ("holds", ("end", 0)), ("holds",), ("apart", (("end", 0),), 0), ["holds", (("end", 0),)],
    deep((), 12, tuple), deep([], 12, list), deep("a", 11, tuple), tuple(range(5000)), ("a",) * 5000, list(range(5000)),
    PLAIN, (PLAIN,), [PLAIN], Cloth(("x-", "-x")), (Cloth(("x",)), 0), Chart("a", 1, (), (0,)), element_of(PLAIN, "ab"),
    Beam(PLAIN, ("ab",)), ((("end", 0), PLAIN),), {"k": PLAIN}, ("holds", (PLAIN,)), ("holds", PLAIN), (PLAIN, ("a",)),
    ("alike", (PLAIN, [0, 0])), ("alike", ((0, 0), (0, True))), BadLoom("shafts"),
    "all", "falls", "from", "ever", "grip", "slips", "within", "ring", "beyond", "up", "down", "plan", "refusal", "shown", "clash",
    "forced", "d", "l", ".", "dl", "d\n", "colour", "unlike", ("all", ()), ("all", []), ("all", ((0, ""),)), ("all", ((False, ""),)),
    ("all", (0, "")), ("all", ((0, []),)), ("falls", ""), ("falls", []), ("falls", {}), ("from", 0, ()), ("from", False, ()),
    ("from", 10 ** 39, ()), ("from", 1, ((0, "", 0),)), ("from", 1, ((0, "", False),)), ("from", 1, [(0, "", 0)]),
    ("from", 1, ({}, [])), ("ever", "a", "a", ""), ("ever", "", "", ""), ("ever", [], {}, PLAIN), ["ever", "a", "a", ""],
    ("grip", 1, ()), ("grip", True, ()), ("grip", 0, ()), ("grip", 10 ** 39, ((0, "", 10 ** 38),)), ("slips", "", "a", "a", "", ""),
    ("slips", "", "a", "a", "", []), ("slips", 1, 2, 3, 4, 5), ("within", 0, ()), ("within", True, ()), ("within", 10 ** 39, ()),
    ("within", 1, ((0, 0, "up", 1),)), ("within", 0, ((0, [], "up", {}),)), ("ring", "", "a", "", 0, "up"),
    ("ring", "", "b", "", True, "up"), ("ring", [], {}, (), PLAIN, None), ("ring", "", "a", "", 0, ["up"]),
    ("beyond", "aaa", 0, "up", 0), ("beyond", "aaa", False, "up", 0), ("beyond", "aaa", 0, "up", False),
    ("beyond", "aaa", 0, "up", 10 ** 39), ("beyond", [], {}, None, PLAIN), ("beyond", "aaa", 0, {}, 0), ("plan", ()), ("plan", []),
    ("plan", (((0, 0), ("ab",), "a"),)), ("plan", (((0, 0), [], {}),)), ("plan", (((0, 10 ** 39), ("ab",), "a"),)), ("refusal", ()),
    ("refusal", (((0, 0), ("a",), 0, ("",)),)), ("refusal", (((False, 0), ("a",), 0, ("",)),)), ("refusal", (((0, 0), {}, 0, []),)),
    ("refusal", (((0, 0), ("a",), True, ("",)),)), ("shown", ("dd", "ll")), ("shown", ["dd", "ll"]), ("shown", ("dd", 1)),
    ("shown", {}), ("clash", ((("end", 0), "d"),)), ("clash", ()), ("clash", (({}, "d"),)), ("clash", ((("end", False), "d"),)),
    ("forced", ((("end", 0), "d"), (("end", 0), "l"))), ("forced", ()), ("forced", ((("end", 0), []),)), ("forced", PLAIN),
    ("dd", "ll"), ["dd", "ll"], ("dd", "ll", ""), ("dd", ["l", "l"]), ("dd", PLAIN), (("colour", ("end", 0), "d"),),
    (("colour", ("end", False), "d"),), (("alike", ("end", 0), ("end", 1)),), (("alike", ["end", 0], ("end", 1)),), ((0, ""), (0, "a")),
    ("holds", Cloth(("x-", "-x"))), ("holds", Cloth(("x",))), ("holds", Picture(("dl", "ld"))), Picture(("dl", "ld")),
    Picture((".",)), Treadler(PLAIN, ("ab",), 0, 1), Caller(PLAIN, ("a",), 0, 0), (Caller(PLAIN, ("a",), 0, 0),),
    ("", 0, 0), ("", 0, False), ("e", 1, 1), ("epsw", -20, 10 ** 39), ("we", 0, 0), ["e", 0, 0], ("e", 0), ("e", "0", 0), ("ee", 0, 0),
    (None, 0, 0), ("", "e", "p", "ep"), ("", "s"), ("s",), ("", "ew"), ["", "s"], ("", "s", []), ("", True), ("s", ""), ("", "", "s"),
    ("same", ("", 0, 0)), ("same", ("", 0, True)), ("same", ["", 0, 0]), ("same", None), ("unlike", ("-",), ("x",)),
    ("unlike", ("--", "-x"), ("-",)), ("unlike", ("end", 0), ("end", 1)), ("unlike", ("end", 0), ("pick", 0)),
    ("unlike", ("end", 0), ("pick", False)), ("unlike", ["end", 0], {}), ("alike", (("", 0, 0),)), ("alike", (("", 0, 0), ("e", 0, 0))),
    ("alike", [("", 0, 0)]), ("alike", (("", 0, False), ("", 0, 1))), ("alike", ((0, "", 0),)), ("kept", 0, 1), ("kept", 2, 2),
    ("kept", 4, 2), ("kept", False, 1), ("kept", 0, True), ("kept", 0, 0), ("kept", -1, 2), ("kept", 0, 10 ** 39), ("kept", 1999, 1),
    ("kept", 1999, 2), ("kept", "0", {}), ("broken", 0), ("broken", True), ("broken", 10 ** 30), ("broken", 10 ** 30 + 1), ("broken", -1),
    ("broken", [0]), ["broken", 0], ("broken", 0, 0), ((0, 0),), ((0, 0), (1, 1)), ((1, 1), (0, 0)), ((0, False),), ((0, 10 ** 39),),
    [(0, 0)], ((0, 0, 0),), ((0,),), ((0, []),), ("mend", (), ()), ("mend", ((0, 0), (1, 1)), ((("end", 0),), (("end", 1),))),
    ("mend", [], ()), ("mend", (), ((),)), ("mend", ((0, 0),), ({},)), ("mend", ((0, 0),), (("end", 0),)), (("a", 0),), (("b", 1),),
    (("a", 0), ("b", 1)), (("b", 1), ("a", 0)), (("a", False),), (("a", "0"),), (("ab", 0),), [("a", 0)], ((["a"], 0),), (("a", 0, 0),),
    ("pegs", (), ()), ("pegs", (("b", 1),), (((), "ab"),)), ("pegs", (("b", True),), (((), "ab"),)), ("pegs", [], ()),
    ("pegs", (("b", 1),), (((), ("a", "a", "")),)), ("pegs", (("a", 0),), {}), ("none", ()), ("none", (((), ""),)), ("none", (((), "a"),)),
    ("none", (((), ("a", "a", "")),)), ("none", (([], "a"),)), ("none", (((), {}),)), ("none", {}), ("a", "a", ""), ["a", "a", ""],
    ("a", "a", None), ("", "", ""), ("ab", "ab", ""), (PLAIN, "ab"), (PLAIN, ""), (PLAIN, ["a"]), (PLAIN, "abc"), [PLAIN, "ab"],
    ("ab", PLAIN), ("unlike", (0,), (0,)), ("unlike", (0, 1), (0, 1)), ("unlike", (0, True), (0,)), ("unlike", [0], {}),
    ("unlike", (0, 1), (0,)), ("a", "ab", ""), ("ab", "ba"), ["a"], ("a", ["b"]), ("", None), ((0,), (0,)), ((0, 1), (1,)), ((), ()),
    ((0,), (False,)), ([0], (0,)), (((0,), (0,)),), (((0,), (1,)), ((1,), (0,))), (((0,), (0,)), ((0,), (0,))), (((0,), {}),),
    ("holds",), ("holds", 1), ("from", 0), ("from", True), ("from", -1), ("grip", 0), ("grip", 1), ("grip", "1"), ("floats", 1),
    ("floats", 0), ("floats", 10 ** 39), ("floats",), ("weft", "a"), ("weft", []), ("weft", "c"), ("slips", "a"), ("slips", ()),
    ("falls", "a"), "found t ab shafts 1;threading 0;lift a", "names", "undo", "told t", ("names",), Growth(PLAIN, "a", ("ab", "a")),
    (Growth(PLAIN, "", ("", "")),), House(), (House(),), Console(), ("cloth", "x-\n-x", ("holds", ())), ("cloth", Cloth(("x",)), ()),
    ("unlike", "x", ("unlike", (0,), (0,))), ("one treadling", str(PLAIN), "ab", "1(ab)"), ("one treadling", str(PLAIN), "-", "0(ab)"),
)


def random_value(rng, depth=4):
    """Some value built from the kinds that "any value" names."""
    if depth > 0 and rng.random() < 0.5:
        parts = [random_value(rng, depth - 1) for _ in range(rng.randrange(4))]
        kind = rng.randrange(4)
        if kind == 0:
            return parts
        if kind == 1:
            return {place: part for place, part in enumerate(parts)}
        return tuple(parts)
    return rng.choice(FIXED_VALUES)


def some_values(seed, many):
    """The fixed values, and so many further ones."""
    rng = random.Random(seed)
    return [*FIXED_VALUES, *[random_value(rng) for _ in range(many)]]


def changed(rng, value):
    """A value with one part, at any depth, otherwise, left out, exchanged or repeated."""
    if not isinstance(value, (tuple, list)) or len(value) == 0 or rng.random() < 0.15:
        return changed_leaf(rng, value)
    parts = list(value)
    at = rng.randrange(len(parts))
    way = rng.randrange(10)
    if way < 6:
        parts[at] = changed(rng, parts[at])
    elif way == 6:
        del parts[at]
    elif way == 7:
        parts.insert(rng.randrange(len(parts) + 1), parts[at])
    elif way == 8:
        other = rng.randrange(len(parts))
        parts[at], parts[other] = parts[other], parts[at]
    else:
        return list(parts) if rng.random() < 0.5 else tuple(parts[::-1])
    return tuple(parts) if isinstance(value, tuple) else parts


def changed_leaf(rng, value):
    """Another value in the place of one: near to it, or any."""
    if isinstance(value, bool) or rng.random() < 0.3:
        return rng.choice(FIXED_VALUES)
    if isinstance(value, int):
        return rng.choice([value + 1, value - 1, -value, bool(value), str(value), value + 10 ** 30])
    if isinstance(value, str):
        return rng.choice([value + "a", value[1:], value[::-1], value.upper(), list(value), value + "\n"])
    return rng.choice(FIXED_VALUES)


def changed_values(seed, value, many):
    """So many values that come from a value by one to three changes."""
    rng = random.Random(seed)
    out = []
    for _ in range(many):
        other = value
        for _ in range(rng.choice([1, 1, 2, 3])):
            other = changed(rng, other)
        out.append(other)
    return out


def other_leaves(value):
    """Values in the place of one that is no tuple."""
    if isinstance(value, int):
        return [value + 1, value - 1, -value, bool(value), str(value), None, value + 10 ** 39, (value,), -2]
    if isinstance(value, str):
        return [value + "a", value + value, value[1:], value[::-1], list(value), None, value.upper(), 0, "", (value,), value + "\n"]
    return [None, (value,), [value], 0]


def all_changed(value):
    """Yield all values that come from a value by one change of one part, at any depth."""
    if not isinstance(value, tuple):
        yield from other_leaves(value)
        return
    yield from [list(value), value[::-1], (*value, *value), None, (), (value,), {0: value}]
    for at, part in enumerate(value):
        yield value[:at] + value[at + 1:]
        yield value[:at + 1] + value[at:]
        yield value[:at] + value[at + 1:at + 2] + value[at:at + 1] + value[at + 2:]
        for other in all_changed(part):
            yield (*value[:at], other, *value[at + 1:])


def with_another_row(rows):
    """Yield rows with one more: behind one of them this one with one part otherwise, also of another kind."""
    for at, row in enumerate(rows):
        for other in all_changed(row):
            yield (*rows[:at + 1], other, *rows[at + 1:])


def is_true_int(thing):
    """Tell whether a value is an integer, no bool."""
    return type(thing) is int


def is_sorted(row):
    """Tell whether comparable values ascend."""
    return list(row) == sorted(set(row))


def random_loom(rng, shafts=4, ends=6, letters=4):
    """Some loom of at most so many shafts, ends and treadles."""
    many = rng.randrange(1, shafts + 1)
    threading = tuple(rng.randrange(many) for _ in range(rng.randrange(1, ends + 1)))
    lifts = tuple(tuple(s for s in range(many) if rng.random() < 0.5) for _ in range(rng.randrange(1, letters + 1)))
    return Loom(many, threading, lifts)


def random_cloth(rng, picks=5, ends=5):
    """Some cloth of at most so many picks and ends."""
    width = rng.randrange(1, ends + 1)
    return Cloth(tuple("".join(rng.choice("x-") for _ in range(width)) for _ in range(rng.randrange(1, picks + 1))))


def random_chart(rng, states=4, letters="abcd", full=None):
    """Some chart of at most so many states over the first few of some letters."""
    many = rng.randrange(1, states + 1)
    own = letters[:rng.randrange(1, len(letters) + 1)]
    share = full if full is not None else rng.choice([0.3, 0.6, 0.9, 1])
    moves = tuple((s, x, rng.randrange(many)) for s in range(many) for x in own if rng.random() < share)
    return Chart(own, many, moves, tuple(s for s in range(many) if rng.random() < 0.5))


def random_word(rng, letters, most):
    """Some string of at most so many of these letters."""
    return "".join(rng.choice(letters) for _ in range(rng.randrange(most + 1)))


def words_to(letters, most):
    """All strings of at most so many letters, in order."""
    words = [""]
    row = [""]
    for _ in range(most):
        row = [word + letter for word in row for letter in letters]
        words.extend(row)
    return words


def lets(chart, word):
    """Tell whether a string is a treadling of a chart, move by move."""
    state = 0
    for letter in word:
        targets = [target for here, sign, target in chart.moves if (here, sign) == (state, letter)]
        if not targets:
            return False
        state = targets[0]
    return state in chart.ends


def language(chart, letters, most):
    """The set of the treadlings of a chart with at most so many letters."""
    return {word for word in words_to(letters, most) if lets(chart, word)}


def treadlings_to(chart, most):
    """All treadlings of a chart with at most so many letters, in order, move by move."""
    found = []
    row = [("", 0)]
    for _ in range(most + 1):
        found.extend(word for word, state in row if state in chart.ends)
        row = [(word + sign, target) for word, state in row for here, sign, target in chart.moves if here == state]
    return found


def useful_told(chart):
    """The set of the useful states, told by walking from each state."""
    def walked(start):
        found = {start}
        while True:
            more = {target for state, _, target in chart.moves if state in found} - found
            if not more:
                return found
            found |= more
    return {state for state in walked(0) if walked(state) & set(chart.ends)}


def fits(loom, chart):
    """Tell whether each letter of a chart's moves is one of the loom."""
    return all(letter in loom.letters for _, letter, _ in chart.moves)


def behind_ab(chart):
    """The chart of the treadlings of a chart with a and b ahead of each."""
    moves = tuple((state + 2, letter, target + 2) for state, letter, target in chart.moves)
    ends = tuple(state + 2 for state in chart.ends)
    return Chart("".join(sorted({*chart.letters, "a", "b"})), chart.states + 2, ((0, "a", 1), (1, "b", 2), *moves), ends)


def fitting(rng, states=3, letters=2, shafts=3):
    """Some loom and some chart of it; on about half of these looms a and b together hold."""
    loom = random_loom(rng, shafts, 4, letters)
    if rng.random() < 0.6:
        many = rng.randrange(2, letters + 1)
        lifts = [(0,), (1,), *[tuple(s for s in (0, 1) if rng.random() < 0.6) for _ in range(many - 2)]]
        loom = Loom(rng.choice([2, 3]), rng.choice([(0, 1), (0, 1, 0), (1, 1, 0)]), tuple(lifts))
    chart = random_chart(rng, states, loom.letters)
    way = rng.random()
    if len(loom.letters) == 1 or way < 0.35:
        return loom, chart
    if way < 0.6:
        return loom, behind_ab(chart)
    if way < 0.8:
        # Without rings: from each state to later ones alone.
        moves = tuple(move for move in chart.moves if move[2] > move[0])
        return loom, Chart(chart.letters, chart.states, moves, chart.ends or (chart.states - 1,))
    # Rings along which both letters stand.
    return loom, chart_of(rng.choice(["(ab)*", "(aab)*", "a(bba)*", "([ab|ba])*", "([abb|baa])*b", "(ab[a|])*", "b(a[b|ab])*"]), "ab")


def raised(case, error, call, *things, **more):
    """The error of just this class that a call raises."""
    with case.assertRaises(error) as caught:
        call(*things, **more)
    case.assertIs(type(caught.exception), error)
    return caught.exception
