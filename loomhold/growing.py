"""Growths: cloths that grow by putting treadlings in the place of letters."""

from loomhold.errors import BadGrowth, BadPlace, BadText, BadTreadling, TooLong
from loomhold.grownparts import (
    counts_at, counts_in, grown_elements, grown_lengths, grown_words, joined_all, lengths_modulo, pieces_between)
from loomhold.kinds import LETTERS, is_number_below
from loomhold.looms import Loom, is_treadling, lift_read, loom_lines, shafts_read, threading_read
from loomhold.reaching import reached
from loomhold.rollparts import check_stretch
from loomhold.texts import line_of, lines_of, words_behind

EMPTY = "-"


class Growth:
    """A growth on a loom; it is made once and then never changed."""

    def __init__(self, loom, start, rules):
        if not is_treadling(loom, start):
            raise BadGrowth("start")
        if not are_rules(loom, rules):
            raise BadGrowth("rules")
        self.loom = loom
        self.start = start
        self.rules = rules

    def __eq__(self, other):
        return (isinstance(other, Growth) and self.loom == other.loom and self.start == other.start
                and self.rules == other.rules)

    def __str__(self):
        return "\n".join(growth_lines(self))

    @classmethod
    def read(cls, text):
        """The growth with a text."""
        lines = lines_of(text)
        loom = loom_read_ahead(lines)
        number = 3 + len(loom.lifts)
        start = treadling_read(lines, number, loom, ["start"])
        rules = [treadling_read(lines, number + 1 + place, loom, ["rule", letter])
                 for place, letter in enumerate(loom.letters)]
        number = number + 1 + len(rules)
        if number <= len(lines):
            raise BadText(number)
        return cls(loom, start, tuple(rules))

    def rule_of(self, letter):
        """The rule of a letter."""
        return self.rules[LETTERS.index(letter)]

    def next_of(self, treadling):
        """The treadling with each letter replaced by its rule."""
        if not is_treadling(self.loom, treadling):
            raise BadTreadling(treadling)
        return "".join([self.rule_of(letter) for letter in treadling])


def are_rules(loom, thing):
    """Tell whether any value is a tuple with a treadling for each letter of a loom."""
    if not isinstance(thing, tuple) or len(thing) != len(loom.letters):
        return False
    return all([is_treadling(loom, item) for item in thing])


def growth_lines(growth):
    """The lines of the text of a growth."""
    rules = [line_of("rule", [letter, word_for(rule)]) for letter, rule in zip(growth.loom.letters, growth.rules)]
    return [*loom_lines(growth.loom), line_of("start", [word_for(growth.start)]), *rules]


def word_for(treadling):
    """The word that stands for a treadling in a text."""
    return EMPTY if treadling == "" else treadling


def loom_read_ahead(lines):
    """The loom whose text the first lines are: its lifts go on as long as lines begin so, and one has to."""
    shafts = shafts_read(lines)
    threading = threading_read(lines, shafts)
    lifts = [lift_read(lines, 3, shafts)]
    while words_at(lines, 3 + len(lifts))[:1] == ["lift"]:
        lifts.append(lift_read(lines, 3 + len(lifts), shafts))
    return Loom(shafts, threading, tuple(lifts))


def words_at(lines, number):
    """The words of a line, none if there is no such line."""
    return lines[number - 1].split(" ") if number <= len(lines) else []


def treadling_read(lines, number, loom, heads):
    """The treadling that a line tells behind some words; BadText(number) if it tells none."""
    words = words_behind(lines, number, heads[0])
    if len(words) != len(heads) or words[:-1] != heads[1:]:
        raise BadText(number)
    if words[-1] == EMPTY:
        return ""
    if words[-1] == "" or not is_treadling(loom, words[-1]):
        raise BadText(number)
    return words[-1]


def generation(growth, n, *, most=2000):
    """The treadling of a generation; TooLong(most) if it has more letters than most."""
    picks = picks_at(growth, n)
    if picks > most:
        raise TooLong(most)
    return letters_between(growth, n, 0, picks)


def letters_at(growth, n):
    """The tuple that has, for each letter of the loom, how often it stands in a generation."""
    return counts_at(growth, n)


def picks_at(growth, n):
    """How many letters a generation has."""
    return sum(counts_at(growth, n))


def picks_modulo(growth, n, modulus):
    """What the number of letters of a generation leaves when it is divided."""
    lengths = lengths_modulo(growth, n, modulus)
    counts = counts_in(growth.loom, growth.start)
    return sum([many * length for many, length in zip(counts, lengths)]) % modulus


def does_lead_on(growth):
    """Tell whether each generation begins with the one ahead of it: it does if the generation 1 does."""
    return growth.next_of(growth.start).startswith(growth.start)


def does_grow(growth):
    """Tell whether there is no greatest number of letters of a generation.

    It is so exactly if a letter of use comes back to itself on a way on which a rule has two or more letters of use.
    """
    rules = {letter: list(growth.rule_of(letter)) for letter in growth.loom.letters}
    met = reached(list(growth.start), rules)
    lasting = lasting_letters(rules)
    use = {letter: [further for further in rules[letter] if further in lasting] for letter in met if letter in lasting}
    return any([len(use[letter]) > 1 and letter in reached(use[letter], use) for letter in use])


def lasting_letters(rules):
    """The dict, with True, of the letters none of whose own generations is empty."""
    lasting = {letter: True for letter in rules}
    # A letter lasts if some letter of its rule does: each round takes out those that the one ahead of it left alone.
    for _ in rules:
        lasting = {letter: True for letter in rules if any([further in lasting for further in rules[letter]])}
    return lasting


def treadle_in(growth, n, place):
    """The letter at a place of a generation."""
    if not is_number_below(place, picks_at(growth, n)):
        raise BadPlace(place)
    return letters_between(growth, n, place, place + 1)


def stretch_in(growth, n, start, end, *, most=2000):
    """The treadling of the letters of a generation from a place up to, without, another one."""
    check_stretch(picks_at(growth, n), start, end)
    if end - start > most:
        raise TooLong(most)
    return letters_between(growth, n, start, end)


def letters_between(growth, n, start, end):
    """The letters of a generation from a place up to, without, another one."""
    words = grown_words(growth, n, end - start)
    pieces = pieces_between(growth, grown_lengths(growth, n), start, end)
    return "".join([words[level][letter] for letter, level in pieces])


def element_at(growth, n):
    """The element of a generation."""
    return element_in(growth, n, 0, picks_at(growth, n))


def element_in(growth, n, start, end):
    """The element of a stretch of a generation."""
    check_stretch(picks_at(growth, n), start, end)
    told = grown_elements(growth, n)
    pieces = pieces_between(growth, grown_lengths(growth, n), start, end)
    return joined_all(growth.loom, [told[level][letter] for letter, level in pieces])
