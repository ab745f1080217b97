"""Pictures, stripes and terms, and what a cloth with stripes shows."""

from loomhold.cloths import is_strand
from loomhold.errors import BadPicture, BadText, OtherSize
from loomhold.kinds import first_uneven, is_ascending, is_string_over
from loomhold.texts import lines_of

COLOURS = "dl"
EITHER = "."


class Picture:
    """A picture; it is made once and then never changed."""

    def __init__(self, rows):
        if not isinstance(rows, tuple) or rows == ():
            raise BadPicture("rows")
        number = first_uneven(rows, COLOURS + EITHER)
        if number is not None:
            raise BadPicture(number)
        self.rows = rows
        self.ends = len(rows[0])

    def __len__(self):
        return len(self.rows)

    def __eq__(self, other):
        return isinstance(other, Picture) and self.rows == other.rows

    def __str__(self):
        return "\n".join(self.rows)

    @classmethod
    def read(cls, text):
        """The picture with a text."""
        lines = lines_of(text)
        number = first_uneven(lines, COLOURS + EITHER)
        if number is not None:
            raise BadText(number + 1)
        return cls(tuple(lines))


def is_whole(picture):
    """Tell whether each crossing has a colour in the picture."""
    return all([EITHER not in row for row in picture.rows])


def crossings_of(cloth):
    """The list of all pairs (number of a pick, number of an end) of a cloth or a picture, ascending."""
    return [(pick, end) for pick in range(len(cloth)) for end in range(cloth.ends)]


def are_stripes(picture, thing):
    """Tell whether any value is stripes of the size of a picture or a cloth."""
    if not isinstance(thing, tuple) or len(thing) != 2 or not all([is_string_over(item, COLOURS) for item in thing]):
        return False
    return len(thing[0]) == picture.ends and len(thing[1]) == len(picture)


def check_stripes(picture, thing):
    """Raise OtherSize for any value that is no stripes of the size of a picture or a cloth."""
    if not are_stripes(picture, thing):
        raise OtherSize()


def are_terms(picture, thing):
    """Tell whether any value is terms for the picture."""
    return isinstance(thing, tuple) and all([is_term(picture, item) for item in thing]) and is_ascending(thing)


def is_term(picture, thing):
    """Tell whether any value is an item of terms for the picture."""
    if not isinstance(thing, tuple) or len(thing) != 3 or not is_strand(picture, thing[1]):
        return False
    if thing[0] == "colour":
        return is_colour(thing[2])
    return thing[0] in ("alike", "unlike") and is_strand(picture, thing[2]) and thing[1] != thing[2]


def is_colour(thing):
    """Tell whether any value is a colour."""
    return is_string_over(thing, COLOURS) and len(thing) == 1


def other_colour(colour):
    """The colour that a colour is not."""
    return "l" if colour == "d" else "d"


def face(cloth, stripes):
    """The picture of the strands that lie over the other ones."""
    check_stripes(cloth, stripes)
    return seen(cloth, stripes, "x")


def back(cloth, stripes):
    """The picture of the strands that lie under the other ones."""
    check_stripes(cloth, stripes)
    return seen(cloth, stripes, "-")


def seen(cloth, stripes, sign):
    """The picture of the ends where a sign stands, and of the picks elsewhere."""
    ends, picks = stripes
    return Picture(tuple([
        "".join([end if here == sign else pick for here, end in zip(signs, ends)])
        for signs, pick in zip(cloth.picks, picks)]))


def does_show(picture, cloth, stripes):
    """Tell whether a cloth shows the picture with stripes."""
    if cloth.ends != picture.ends or len(cloth) != len(picture):
        raise OtherSize()
    rows = face(cloth, stripes).rows
    return all([picture.rows[pick][end] in (EITHER, rows[pick][end]) for pick, end in crossings_of(picture)])


def first_unshown(picture, stripes):
    """The least pair (pick, end) with a colour that neither has; None if the stripes show the picture."""
    ends, picks = stripes
    for pick, end in crossings_of(picture):
        if picture.rows[pick][end] not in (EITHER, ends[end], picks[pick]):
            return (pick, end)
    return None


def do_keep(picture, stripes, terms):
    """Tell whether stripes keep all terms."""
    return all([does_keep_term(stripes, term) for term in terms])


def does_keep_term(stripes, term):
    """Tell whether stripes keep an item of terms."""
    word, strand, other = term
    if word == "colour":
        return colour_of(stripes, strand) == other
    return (colour_of(stripes, strand) == colour_of(stripes, other)) == (word == "alike")


def colour_of(stripes, strand):
    """The colour of a strand."""
    return stripes[0][strand[1]] if strand[0] == "end" else stripes[1][strand[1]]
