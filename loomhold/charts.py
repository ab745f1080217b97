"""Charts: which treadlings are let."""

from loomhold.errors import BadChart, BadText
from loomhold.kinds import are_letters, is_int, is_number_below, is_tuple_below
from loomhold.reaching import reached
from loomhold.texts import line_of, lines_of, number_of, numbers_of, words_behind
from loomhold.ways import first_word_to


class Chart:
    """A chart; it is made once and then never changed."""

    def __init__(self, letters, states, moves, ends):
        if not are_letters(letters):
            raise BadChart("letters")
        if not is_state_count(states):
            raise BadChart("states")
        if not isinstance(moves, tuple):
            raise BadChart("moves")
        for number, move in enumerate(moves):
            if not is_next_move(moves[max(0, number - 1):number], move, letters, states):
                raise BadChart(number)
        if not is_tuple_below(ends, states):
            raise BadChart("ends")
        self.letters = letters
        self.states = states
        self.moves = moves
        self.ends = ends
        self._targets = {(state, letter): target for state, letter, target in moves}

    def __len__(self):
        return len(range(self.states))

    def __eq__(self, other):
        return (isinstance(other, Chart) and self.letters == other.letters and self.states == other.states
                and self.moves == other.moves and self.ends == other.ends)

    def __str__(self):
        return "\n".join(chart_lines(self))

    @classmethod
    def read(cls, text):
        """The chart with a text."""
        lines = lines_of(text)
        states = states_read(lines)
        letters = letters_read(lines)
        ends = ends_read(lines, states)
        return cls(letters, states, moves_read(lines, letters, states), ends)

    def led(self, state, word):
        """The state to which a string leads from a state, None if there is none."""
        for letter in word:
            if (state, letter) not in self._targets:
                return None
            state = self._targets[(state, letter)]
        return state


def is_state_count(thing):
    """Tell whether a chart can have so many states."""
    return is_int(thing) and thing >= 1


def is_next_move(ahead, thing, letters, states):
    """Tell whether any value is a move, and stands behind the one ahead of it: a tuple with this one, or none."""
    if not isinstance(thing, tuple) or len(thing) != 3:
        return False
    if not is_number_below(thing[0], states) or not is_number_below(thing[2], states):
        return False
    if not isinstance(thing[1], str) or len(thing[1]) != 1 or thing[1] not in letters:
        return False
    return all([move[:2] < thing[:2] for move in ahead])


def chart_lines(chart):
    """The lines of the text of a chart."""
    moves = [line_of("move", move) for move in chart.moves]
    return [line_of("chart", [chart.states]), line_of("letters", [chart.letters]), line_of("ends", chart.ends), *moves]


def states_read(lines):
    """The number of states that the first line of a chart's text tells."""
    words = words_behind(lines, 1, "chart")
    if len(words) != 1 or not is_state_count(number_of(words[0])):
        raise BadText(1)
    return number_of(words[0])


def letters_read(lines):
    """The letters that the second line of a chart's text tells."""
    words = words_behind(lines, 2, "letters")
    if len(words) != 1 or not are_letters(words[0]):
        raise BadText(2)
    return words[0]


def ends_read(lines, states):
    """The ends that the third line of a chart's text tells."""
    ends = numbers_of(words_behind(lines, 3, "ends"))
    if not is_tuple_below(ends, states):
        raise BadText(3)
    return ends


def moves_read(lines, letters, states):
    """The moves that the lines behind the third one tell."""
    moves = []
    for number in range(4, len(lines) + 1):
        move = move_told(words_behind(lines, number, "move"))
        if not is_next_move(tuple(moves[-1:]), move, letters, states):
            raise BadText(number)
        moves.append(move)
    return tuple(moves)


def move_told(words):
    """The tuple of state, letter and target that three words tell; the empty one of more or fewer words."""
    if len(words) != 3:
        return ()
    return (number_of(words[0]), words[1], number_of(words[2]))


def has_treadling(chart, thing):
    """Tell whether any value is a treadling of the chart."""
    return isinstance(thing, str) and chart.led(0, thing) in chart.ends


def steps_of(chart):
    """For each state with moves the list of pairs (letter, target), in order."""
    steps = {}
    for state, letter, target in chart.moves:
        steps.setdefault(state, []).append((letter, target))
    return steps


def useful_states(chart):
    """The ascending tuple of the useful states."""
    onward = {}
    backward = {}
    for state, _, target in chart.moves:
        onward.setdefault(state, []).append(target)
        backward.setdefault(target, []).append(state)
    met = reached([0], onward)
    useful = reached(chart.ends, backward)
    return tuple(sorted([state for state in met if state in useful]))


def first_treadling(chart):
    """The first treadling, None if there is none."""
    return first_word_to(steps_of(chart), 0, chart.ends)


def many_treadlings(chart, length):
    """How many treadlings have so many letters."""
    counts = {0: 1}
    for _ in range(length):
        further = {}
        for state, _, target in chart.moves:
            if state in counts:
                further[target] = further.get(target, 0) + counts[state]
        counts = further
    return sum([counts.get(state, 0) for state in chart.ends])


def longest_treadling(chart):
    """How many letters the longest treadlings have, None if there are none, or ever longer ones."""
    useful = {state: True for state in useful_states(chart)}
    moves = [(state, target) for state, _, target in chart.moves if target in useful]
    met = {0: True} if useful else {}
    # A way of as many moves as there are states comes twice to one of them: then there is no longest one.
    for length in range(len(useful)):
        further = {target: True for state, target in moves if state in met}
        if not further:
            return length
        met = further
    return None


def treadlings_of(chart, length):
    """Yield the treadlings with so many letters, in order."""
    steps = steps_of(chart)
    near = near_ends(chart, length)
    waiting = [("", 0)] if 0 in near[length] else []
    while waiting:
        word, state = waiting.pop()
        left = length - len(word)
        if left == 0:
            yield word
        else:
            # The last one that waits is taken first, so the letters wait in their order from behind.
            further = [(word + letter, target) for letter, target in steps.get(state, []) if target in near[left - 1]]
            waiting.extend(further[::-1])


def near_ends(chart, length):
    """For each number of letters up to length the dict, with True, of the states from which so many lead to an end."""
    near = [{state: True for state in chart.ends}]
    for _ in range(length):
        near.append({state: True for state, _, target in chart.moves if target in near[-1]})
    return near
