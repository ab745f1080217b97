"""Papers of plays: whether somebody at the treadles keeps floats within a number, whatever is called out."""

from loomhold.errors import BadWishes
from loomhold.kinds import are_letters, is_ascending, is_int, is_paper


class Play:
    """A loom, wishes for it, a sight and a number; it is made once and then never changed."""

    def __init__(self, loom, wishes, sight, number):
        if not are_wishes(loom, wishes):
            raise BadWishes(wishes)
        self.loom = loom
        self.wishes = wishes
        self.sight = sight
        self.number = number


def are_wishes(loom, thing):
    """Tell whether any value is wishes for a loom."""
    if not isinstance(thing, tuple) or thing == () or not all([are_letters(wish) for wish in thing]):
        return False
    return all([letter in loom.letters for wish in thing for letter in wish]) and is_ascending(thing)


def runs_behind(loom, runs, letter):
    """The runs to which a letter leads."""
    lift = loom.lift_of(letter)
    return tuple([max(run, 0) + 1 if shaft in lift else min(run, 0) - 1 for shaft, run in zip(loom.used, runs)])


def are_within(runs, number):
    """Tell whether no run is longer than a number."""
    return all([-number <= run <= number for run in runs])


def first_stands(play):
    """The list of the stands with which a play may begin, in order."""
    rows = [()]
    for _ in range(play.sight + 1):
        rows = [(*row, wish) for row in rows for wish in play.wishes]
    return [((0,) * len(play.loom.used), row) for row in rows]


def runs_led(play, stand):
    """For each letter of the call of now, in order, the runs to which it leads; None where these break the number."""
    rows = [runs_behind(play.loom, stand[0], letter) for letter in stand[1][0]]
    return [runs if are_within(runs, play.number) else None for runs in rows]


def stand_behind(stand, runs, wish):
    """The stand to which a letter leads that brings some runs, if this wish is called then."""
    return (runs, (*stand[1][1:], wish))


def met_stands(play):
    """For each stand to which a play can come the list of the runs to which letters lead."""
    met = {}
    queue = first_stands(play)
    found = {stand: True for stand in queue}
    at = 0
    while at < len(queue):
        here = queue[at]
        rows = runs_led(play, here)
        met[here] = rows
        further = [stand for runs in rows for stand in stands_behind(play, here, runs)]
        for stand in further:
            if stand not in found:
                found[stand] = True
                queue.append(stand)
        at += 1
    return met


def stands_behind(play, stand, runs):
    """The stands, one for each wish, to which a letter leads that brings some runs; none where it breaks the number."""
    return [] if runs is None else [stand_behind(stand, runs, wish) for wish in play.wishes]


def places_ahead(play, met):
    """For each stand the list of pairs (stand, place of a letter in its call of now) that may lead to it."""
    ahead = {}
    for here in met:
        for place, runs in enumerate(met[here]):
            for stand in stands_behind(play, here, runs):
                ahead.setdefault(stand, []).append((here, place))
    return ahead


def solved(play, met):
    """The numbers of the stands at which the caller breaks the number, and the answers of all stands.

    The stands with numbers are in the order of these. An answer is the wish by which the caller goes on to a stand
    with a lesser number; it is "" for a letter that breaks the number, and as long as there is no such wish.
    """
    ahead = places_ahead(play, met)
    answers = {stand: [""] * len(met[stand]) for stand in met}
    safe = {stand: len([runs for runs in met[stand] if runs is not None]) for stand in met}
    queue = [stand for stand in met if safe[stand] == 0]
    numbers = {stand: 0 for stand in queue}
    at = 0
    while at < len(queue):
        here = queue[at]
        for stand, place in ahead.get(here, []):
            if answers[stand][place] == "":
                answers[stand][place] = here[1][-1]
                safe[stand] = safe[stand] - 1
                if safe[stand] == 0:
                    numbers[stand] = numbers[here] + 1
                    queue.append(stand)
        at += 1
    return numbers, answers


def cells_of(play, met, answers):
    """The cells of a plan: at each stand the first letter that the caller cannot answer is trodden."""
    letters = {}
    queue = first_stands(play)
    while queue:
        stand = queue.pop()
        if stand not in letters:
            place = kept_place(met[stand], answers[stand])
            letters[stand] = stand[1][0][place]
            queue.extend(stands_behind(play, stand, met[stand][place]))
    return tuple(sorted([(*stand, letters[stand]) for stand in letters]))


def kept_place(rows, answers):
    """The place of the first letter that neither breaks the number nor has an answer."""
    return [runs is not None and answer == "" for runs, answer in zip(rows, answers)].index(True)


def rows_of_refusal(met, numbers, answers, start):
    """The rows of a refusal that begins with a stand."""
    found = {}
    queue = [start]
    while queue:
        stand = queue.pop()
        if stand not in found:
            found[stand] = (*stand, numbers[stand], tuple(answers[stand]))
            queue.extend([stand_behind(stand, runs, wish)
                          for runs, wish in zip(met[stand], answers[stand]) if runs is not None])
    return tuple(sorted(list(found.values())))


def judge_play(loom, wishes, sight, number):
    """A paper: a plan or a refusal."""
    play = Play(loom, wishes, sight, number)
    met = met_stands(play)
    numbers, answers = solved(play, met)
    lost = [(numbers[stand], stand) for stand in first_stands(play) if stand in numbers]
    if lost:
        return ("refusal", rows_of_refusal(met, numbers, answers, min(lost)[1]))
    return ("plan", cells_of(play, met, answers))


def can_keep(loom, wishes, sight, number):
    """Tell whether there is a plan."""
    return judge_play(loom, wishes, sight, number)[0] == "plan"


def least_kept(loom, wishes, sight, most):
    """The least number up to most for which there is a plan, None if there is none."""
    for number in range(most + 1):
        if can_keep(loom, wishes, sight, number):
            return number
    return None


def play_holds(loom, wishes, sight, number, thing):
    """Tell whether any value is a plan or a refusal."""
    play = Play(loom, wishes, sight, number)
    if is_paper(thing, "plan", 2):
        return isinstance(thing[1], tuple) and is_plan(play, thing[1])
    return is_paper(thing, "refusal", 2) and isinstance(thing[1], tuple) and is_refusal(play, thing[1])


def is_stand(play, runs, calls):
    """Tell whether any two values are the runs, within the number, and the calls of a stand."""
    if not isinstance(runs, tuple) or len(runs) != len(play.loom.used) or not all([is_int(run) for run in runs]):
        return False
    if not isinstance(calls, tuple) or len(calls) != play.sight + 1:
        return False
    return are_within(runs, play.number) and all([call in play.wishes for call in calls])


def is_cell(play, thing):
    """Tell whether any value is a cell whose letter, one of the call, does not break the number."""
    if not isinstance(thing, tuple) or len(thing) != 3 or not is_stand(play, thing[0], thing[1]):
        return False
    if not isinstance(thing[2], str) or len(thing[2]) != 1 or thing[2] not in thing[1][0]:
        return False
    return are_within(runs_behind(play.loom, thing[0], thing[2]), play.number)


def is_first(play, stand):
    """Tell whether a play may begin with a stand."""
    return stand[0] == (0,) * len(play.loom.used)


def are_all_first(play, stands):
    """Tell whether all stands with which a play may begin are among those of a dict, each of which is one."""
    many = len([stand for stand in stands if is_first(play, stand)])
    # They are counted, as far as need be: by a great sight there would be too many to be written out.
    asked = 1
    for _ in range(play.sight + 1):
        asked = asked * len(play.wishes)
        if asked > many:
            return False
    return True


def is_plan(play, row):
    """Tell whether any tuple is the cells of a plan."""
    if not all([is_cell(play, cell) for cell in row]) or not is_ascending(row):
        return False
    letters = {(runs, calls): letter for runs, calls, letter in row}
    if len(letters) != len(row) or not are_all_first(play, letters):
        return False
    led = [(stand, runs_behind(play.loom, stand[0], letters[stand])) for stand in letters]
    return all([further in letters for stand, runs in led for further in stands_behind(play, stand, runs)])


def is_row(play, thing):
    """Tell whether any value is a row of a stand, a number and as many strings as the call of now has letters."""
    if not isinstance(thing, tuple) or len(thing) != 4 or not is_stand(play, thing[0], thing[1]):
        return False
    if not is_int(thing[2]) or thing[2] < 0 or not isinstance(thing[3], tuple):
        return False
    return len(thing[3]) == len(thing[1][0]) and all([isinstance(answer, str) for answer in thing[3]])


def is_refusal(play, row):
    """Tell whether any tuple is the rows of a refusal."""
    if not all([is_row(play, item) for item in row]) or not is_ascending(row):
        return False
    numbers = {(runs, calls): number for runs, calls, number, _ in row}
    if len(numbers) != len(row) or not any([is_first(play, stand) for stand in numbers]):
        return False
    return all([do_answers_lead(play, numbers, (runs, calls), answers) for runs, calls, _, answers in row])


def do_answers_lead(play, numbers, stand, answers):
    """Tell whether each answer of a stand is as a refusal has it."""
    return all([is_answer(numbers, stand, runs, answer) for runs, answer in zip(runs_led(play, stand), answers)])


def is_answer(numbers, stand, runs, answer):
    """Tell whether an answer is "" for a letter that breaks, otherwise a wish on to a stand with a lesser number."""
    if runs is None:
        return answer == ""
    further = stand_behind(stand, runs, answer)
    return further in numbers and numbers[further] < numbers[stand]
