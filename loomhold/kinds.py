"""Small questions about values, asked by constructors and checkers of any value."""

LETTERS = "abcdefghijklmnopqrstuvwxyz"


def is_int(thing):
    """Tell whether a value is an integer; a bool is none."""
    return isinstance(thing, int) and not isinstance(thing, bool)


def is_number_below(thing, limit):
    """Tell whether a value is an integer from 0 on, below a limit."""
    return is_int(thing) and 0 <= thing < limit


def is_ascending(row):
    """Tell whether a string or tuple of comparable values is sorted, without duplicates."""
    return all([one < other for one, other in zip(row, row[1:])])


def is_tuple_below(thing, limit):
    """Tell whether a value is an ascending tuple of integers from 0 on, below a limit."""
    if not isinstance(thing, tuple):
        return False
    return all([is_number_below(item, limit) for item in thing]) and is_ascending(thing)


def are_letters(thing):
    """Tell whether a value is an ascending string of one or more letters from a to z."""
    if not isinstance(thing, str) or thing == "":
        return False
    return all([sign in LETTERS for sign in thing]) and is_ascending(thing)


def is_string_over(thing, signs):
    """Tell whether a value is a string, perhaps empty, of some signs alone."""
    return isinstance(thing, str) and all([sign in signs for sign in thing])


def is_paper(thing, word, many):
    """Tell whether a value is a tuple of so many items that begins with a word."""
    return isinstance(thing, tuple) and len(thing) == many and thing[0] == word


def first_uneven(rows, signs):
    """The number of the first value that is no string of one or more of some signs, or not as long as the first one.

    None if all are even.
    """
    for number, row in enumerate(rows):
        if not is_string_over(row, signs) or row == "" or len(row) != len(rows[0]):
            return number
    return None
