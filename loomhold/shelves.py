"""What a shelf of a house asks: charts of a loom, rolls of a chart, promises with papers, and the same pictures."""

from loomhold.byletters import do_hold, letters_of
from loomhold.charts import has_treadling, useful_states
from loomhold.cloths import pick_of
from loomhold.floatpapers import judge_within, within_holds
from loomhold.floats import keeps_within, weft_float
from loomhold.grips import first_slip, grip
from loomhold.holding import do_all_hold, first_fall
from loomhold.holdpapers import judge_lasting, last_fall, lasts_from
from loomhold.kinds import is_int, is_paper
from loomhold.rollparts import letters_within
from loomhold.rolls import check_roll
from loomhold.spots import useful_letters

LEAST_NUMBERS = {"from": 0, "grip": 1, "floats": 1}


def is_of_loom(loom, chart):
    """Tell whether each letter of a chart's moves is a letter of the loom."""
    return all([letter in loom.letters for _, letter, _ in chart.moves])


def does_take(loom, chart, roll):
    """Tell whether a roll is a treadling of the chart."""
    check_roll(loom, roll)
    return states_led(chart, roll)[0] in chart.ends


def states_led(chart, roll):
    """The list of the states to which a roll leads from each state, None where it leads nowhere."""
    led = list(range(chart.states))
    for item in roll:
        if isinstance(item, str):
            further = [chart.led(state, item) for state in range(chart.states)]
        else:
            further = states_led_times(states_led(chart, item[1]), item[0])
        led = led_on(led, further)
    return led


def led_on(led, further):
    """The list of the states to which two stretches one behind the other lead."""
    return [None if state is None else further[state] for state in led]


def states_led_times(led, many):
    """The list of the states to which so many of one stretch lead, one behind the other."""
    total = list(range(len(led)))
    while many > 0:
        if many % 2 == 1:
            total = led_on(total, led)
        led = led_on(led, led)
        many = many // 2
    return total


def is_promise(thing):
    """Tell whether any value is a promise."""
    if is_paper(thing, "holds", 1):
        return True
    if not isinstance(thing, tuple) or len(thing) != 2 or not isinstance(thing[0], str) or not is_int(thing[1]):
        return False
    return thing[0] in LEAST_NUMBERS and thing[1] >= LEAST_NUMBERS[thing[0]]


def does_keep(loom, chart, promise):
    """Tell whether a loom and a chart of it keep a promise."""
    if promise[0] == "holds":
        return do_all_hold(loom, chart)
    if promise[0] == "floats":
        return keeps_within(loom, chart, promise[1])
    number = lasts_from(loom, chart) if promise[0] == "from" else grip(loom, chart)
    return number is not None and number <= promise[1]


def first_broken(loom, chart, promises):
    """The first promise that is not kept, with a paper that shows it; None if all are kept."""
    for promise in promises:
        if not does_keep(loom, chart, promise):
            return (promise, broken_paper(loom, chart, promise))
    return None


def broken_paper(loom, chart, promise):
    """A paper that shows that a promise is not kept."""
    if promise[0] == "holds":
        return ("falls", first_fall(loom, chart))
    if promise[0] == "from":
        return ("falls", long_fall(loom, chart, promise[1]))
    if promise[0] == "grip":
        return ("slips", first_slip(loom, chart, promise[1]))
    return float_paper(loom, chart, promise[1])


def long_fall(loom, chart, number):
    """A treadling of so many letters or more that falls, where there is one."""
    word = last_fall(loom, chart)
    if word is not None:
        return word
    _, ahead, loop, behind = judge_lasting(loom, chart)
    return ahead + loop * number + behind


def float_paper(loom, chart, number):
    """A paper of a float, or of a weft float, longer than a number, where there is one."""
    paper = judge_within(loom, chart, number)
    if paper[0] == "beyond":
        return paper
    wide = [letter for letter in useful_letters(chart) if weft_float(loom, letter) > number]
    return ("weft", wide[0])


def does_show_broken(loom, chart, promise, thing):
    """Tell whether any value is a paper that shows that a promise is not kept."""
    if promise[0] == "grip":
        return is_paper(thing, "slips", 2) and is_slip(loom, chart, promise[1], thing[1])
    if promise[0] != "floats":
        number = 0 if promise[0] == "holds" else promise[1]
        return is_paper(thing, "falls", 2) and is_fall(loom, chart, number, thing[1])
    if is_paper(thing, "weft", 2):
        return thing[1] in useful_letters(chart) and weft_float(loom, thing[1]) > promise[1]
    return is_paper(thing, "beyond", 5) and within_holds(loom, chart, promise[1], thing)


def is_fall(loom, chart, number, thing):
    """Tell whether any value is a treadling of a chart of so many letters or more that does not hold."""
    return has_treadling(chart, thing) and len(thing) >= number and not do_hold(loom, letters_of(thing))


def is_slip(loom, chart, number, thing):
    """Tell whether any value is a stretch of a chart of so many letters that does not hold."""
    if not isinstance(thing, str) or len(thing) != number:
        return False
    useful = useful_states(chart)
    if not any([chart.led(state, thing) in useful for state in useful]):
        return False
    return not do_hold(loom, letters_of(thing))


def first_other(loom, other, rolls):
    """The index of the first roll with picks whose cloth another loom does not weave, too; None if there is none."""
    for place, roll in enumerate(rolls):
        if not do_weave_alike(loom, other, letters_within(roll)):
            return place
    return None


def do_weave_alike(loom, other, letters):
    """Tell whether some letters of a loom, perhaps none, are letters of another loom that lay the same picks."""
    if not all([letter in other.letters for letter in letters]):
        return False
    return all([pick_of(loom.threading, loom.lift_of(letter)) == pick_of(other.threading, other.lift_of(letter))
                for letter in letters])
