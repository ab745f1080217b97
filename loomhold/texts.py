"""Lines, words and integers of texts."""

from loomhold.errors import BadText


def lines_of(text):
    """The lines of a text; BadText(0) for a value that is no string."""
    if not isinstance(text, str):
        raise BadText(0)
    return text.split("\n")


def words_behind(lines, number, head):
    """The words behind the first one of a line; BadText(number) if there is no such line, or head is not the first."""
    if number > len(lines):
        raise BadText(number)
    words = lines[number - 1].split(" ")
    if words[0] != head:
        raise BadText(number)
    return words[1:]


def number_of(word):
    """The integer from 0 on that Python writes so; -1 if there is none."""
    if not (word.isascii() and word.isdigit()):
        return -1
    if word.startswith("0") and word != "0":
        return -1
    return int(word)


def numbers_of(words):
    """The tuple of the integers of words, -1 for each word that is none."""
    return tuple([number_of(word) for word in words])


def line_of(head, things):
    """A line of a word and of things behind it, with single blanks."""
    return " ".join([head, *[str(thing) for thing in things]])
