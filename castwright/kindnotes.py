"""Kinds as texts: written and read."""

from castwright.errors import BadNote
from castwright.kinds import MOST_DEPTH
from castwright.kinds import check_kind
from castwright.kinds import is_kind
from castwright.reader import Reader


def kind_shown(kind):
    check_kind(kind)
    return written(kind)


def kind_read(text):
    reader = Reader(text)
    kind = kind_from(reader, 1)
    reader.wants_end()
    # The text may have the right form and yet write too many kinds, or
    # names that are none, fall or come twice.
    if not is_kind(kind):
        raise BadNote("what is written is no kind")
    return kind


# The bounds are not held here, since kinds that are told may go beyond them.
def written(kind):
    if kind[0] == "to":
        return "(" + written(kind[1]) + " > " + written(kind[2]) + ")"
    if kind[0] == "box":
        return "[" + written(kind[1]) + "]"
    if kind[0] == "row":
        return row_written(kind)
    return kind[0]


def row_written(row):
    pieces = [field_written(field) for field in row[1]]
    if row[2]:
        pieces.append("..")
    return "{" + ", ".join(pieces) + "}"


def field_written(field):
    sign = "" if field[1] == "must" else "?"
    return field[0] + sign + ": " + written(field[2])


# The depth is held while reading, so that a text of many opening
# brackets doesn't lead into as many calls.
def kind_from(reader, depth):
    if depth > MOST_DEPTH:
        raise BadNote("too many kinds within one another")
    if reader.takes("("):
        return function_from(reader, depth)
    if reader.takes("["):
        return box_from(reader, depth)
    if reader.takes("{"):
        return row_from(reader, depth)
    word = reader.word()
    if word not in ("any", "num", "truth"):
        raise BadNote("wanted a kind")
    return (word,)


def function_from(reader, depth):
    taken = kind_from(reader, depth + 1)
    reader.wants(" > ")
    given = kind_from(reader, depth + 1)
    reader.wants(")")
    return ("to", taken, given)


def box_from(reader, depth):
    inside = kind_from(reader, depth + 1)
    reader.wants("]")
    return ("box", inside)


def row_from(reader, depth):
    if reader.takes("}"):
        return ("row", (), False)
    fields = []
    while not reader.takes(".."):
        fields.append(field_from(reader, depth))
        if reader.takes("}"):
            return ("row", tuple(fields), False)
        reader.wants(", ")
    reader.wants("}")
    return ("row", tuple(fields), True)


def field_from(reader, depth):
    name = reader.word()
    mark = "may" if reader.takes("?") else "must"
    reader.wants(": ")
    return (name, mark, kind_from(reader, depth + 1))
