"""Rows of signs that go on for ever in both directions: their periods, and how they are turned and moved."""

from loomhold.cloths import other_sign


def period_of(row):
    """The least number of places, a divisor of a row's length, by which the row is moved onto itself."""
    return min([many for many in range(1, len(row) + 1) if len(row) % many == 0 and row[many:] == row[:-many]])


def columns_of(rows):
    """The list of the strings of signs that stand below one another in rows of one length."""
    return ["".join(column) for column in zip(*rows)]


def periods_of(cloth):
    """The pair of the periods of a cloth's pattern: down, and across."""
    return period_of(cloth.picks), period_of(columns_of(cloth.picks))


def opposite_signs(row):
    """A row with each sign exchanged for the opposite one."""
    return "".join([other_sign(sign) for sign in row])


def mirrored(row):
    """A row with, at each place, what was as far on the other side of the place 0."""
    return row[:1] + row[:0:-1]


def shifted(row, by):
    """A row moved on by so many places."""
    ahead = len(row) - by % len(row)
    return row[ahead:] + row[:ahead]


def turned_rows(rows, turn):
    """The list of rows of signs to which a turn leads a list of rows."""
    if "w" in turn:
        rows = [opposite_signs(column) for column in columns_of(rows)]
    if "e" in turn:
        rows = [mirrored(row) for row in rows]
    if "p" in turn:
        rows = mirrored(rows)
    if "s" in turn:
        rows = [opposite_signs(row) for row in rows]
    return rows


def shifted_rows(rows, down, across):
    """The tuple of rows to which a list of rows is moved."""
    return tuple([shifted(row, across) for row in shifted(rows, down)])
