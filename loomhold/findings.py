"""Findings: texts, values and a paper of what is told of them, in one tuple."""

from loomhold.chartpapers import alike_holds
from loomhold.charts import Chart
from loomhold.clauses import stripes_hold
from loomhold.cloths import Cloth
from loomhold.drafts import unlike_holds
from loomhold.errors import BadText
from loomhold.floatpapers import floats_hold, within_holds
from loomhold.generations import generations_hold, grown_floats_hold
from loomhold.grips import grip_holds
from loomhold.growing import Growth
from loomhold.holdpapers import chart_holds, lasting_holds
from loomhold.kinds import is_int
from loomhold.levels import holding_holds
from loomhold.looms import Loom
from loomhold.mending import mend_holds
from loomhold.patterns import same_holds, strands_hold
from loomhold.pegs import pegs_hold
from loomhold.pictures import Picture
from loomhold.playpapers import are_wishes, play_holds
from loomhold.rolls import first_pick_apart, roll_read
from loomhold.shelves import does_show_broken, is_of_loom, is_promise

# For each word the parts between it and the paper. Where two rolls stand for one treadling, the other one is the paper.
FORMS = {
    "cloth": ("cloth",),
    "alike": ("chart", "chart"),
    "one treadling": ("loom", "roll"),
    "all": ("loom", "chart of it"),
    "lasting": ("loom", "chart of it"),
    "grip": ("loom", "chart of it"),
    "floats": ("loom", "chart of it"),
    "within": ("loom", "chart of it", "number"),
    "play": ("loom", "wishes", "number", "number"),
    "stripes": ("picture",),
    "pattern": ("cloth", "cloth"),
    "strands": ("cloth",),
    "generations": ("growth",),
    "grown floats": ("growth", "number"),
    "mend": ("cloth",),
    "pegs": ("loom", "chart of it"),
    "late pegs": ("loom", "chart of it"),
    "unlike": ("cloth",),
    "broken": ("loom", "chart of it", "promise"),
}


def finding_holds(thing):
    """Tell whether any value is a finding that holds."""
    if not isinstance(thing, tuple) or thing == () or not isinstance(thing[0], str) or thing[0] not in FORMS:
        return False
    form = FORMS[thing[0]]
    if len(thing) != len(form) + 2:
        return False
    parts = parts_read(form, thing[1:-1])
    return parts is not None and does_paper_hold(thing[0], parts, thing[-1])


def parts_read(form, things):
    """The list of what any values of some kinds tell, None if one of them tells nothing of its kind."""
    parts = []
    for kind, thing in zip(form, things):
        part = part_read(kind, thing, parts)
        if part is None:
            return None
        parts.append(part)
    return parts


def part_read(kind, thing, ahead):
    """What any value of a kind tells behind the parts ahead of it, None if nothing."""
    if kind == "number":
        return thing if is_int(thing) and thing >= 0 else None
    if kind == "wishes":
        return thing if are_wishes(ahead[0], thing) else None
    if kind == "promise":
        return thing if is_promise(thing) else None
    if kind == "roll":
        return flat_roll(ahead[0], thing)
    if kind == "chart of it":
        chart = text_read("chart", thing)
        return chart if chart is not None and is_of_loom(ahead[0], chart) else None
    return text_read(kind, thing)


def text_read(kind, thing):
    """What any value is the text of, None if it is no text of a kind."""
    try:
        if kind == "cloth":
            return Cloth.read(thing)
        if kind == "chart":
            return Chart.read(thing)
        if kind == "picture":
            return Picture.read(thing)
        if kind == "growth":
            return Growth.read(thing)
        return Loom.read(thing)
    except BadText:
        return None


def flat_roll(loom, thing):
    """The flat roll of a loom that any value is the text of, None if it is the text of none."""
    try:
        roll = roll_read(loom, thing)
    except BadText:
        return None
    inner = [part for item in roll if isinstance(item, tuple) for part in item[1]]
    return roll if all([isinstance(part, str) for part in inner]) else None


def does_paper_hold(word, parts, paper):
    """Tell whether any value is the paper of a finding that begins with a word and has some parts."""
    if FORMS[word][0] == "cloth":
        return does_cloth_paper_hold(word, parts, paper)
    if FORMS[word][:2] == ("loom", "chart of it"):
        return does_loom_paper_hold(word, parts, paper)
    if word == "alike":
        return alike_holds(parts[0], parts[1], paper)
    if word == "one treadling":
        other = flat_roll(parts[0], paper)
        return other is not None and first_pick_apart(parts[0], parts[1], other) is None
    if word == "play":
        return play_holds(parts[0], parts[1], parts[2], parts[3], paper)
    if word == "stripes":
        return stripes_hold(parts[0], paper)
    if word == "generations":
        return generations_hold(parts[0], paper)
    return grown_floats_hold(parts[0], parts[1], paper)


def does_cloth_paper_hold(word, parts, paper):
    """Likewise for findings that begin with a cloth."""
    if word == "cloth":
        return holding_holds(parts[0], paper)
    if word == "pattern":
        return same_holds(parts[0], parts[1], paper)
    if word == "strands":
        return strands_hold(parts[0], paper)
    if word == "mend":
        return mend_holds(parts[0], paper)
    return unlike_holds(parts[0], paper)


def does_loom_paper_hold(word, parts, paper):
    """Likewise for findings that begin with a loom and a chart of it."""
    loom = parts[0]
    chart = parts[1]
    if word == "all":
        return chart_holds(loom, chart, paper)
    if word == "lasting":
        return lasting_holds(loom, chart, paper)
    if word == "grip":
        return grip_holds(loom, chart, paper)
    if word == "floats":
        return floats_hold(loom, chart, paper)
    if word == "within":
        return within_holds(loom, chart, parts[2], paper)
    if word == "broken":
        return does_show_broken(loom, chart, parts[2], paper)
    return pegs_hold(loom, chart, paper, late=word == "late pegs")
