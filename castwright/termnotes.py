"""Terms as texts: written and read."""

from castwright.errors import BadNote
from castwright.kindnotes import kind_from
from castwright.kindnotes import written
from castwright.reader import Reader
from castwright.terms import MOST_FIGURES
from castwright.terms import MOST_TERM_DEPTH
from castwright.terms import check_term
from castwright.terms import form_of
from castwright.terms import is_term


def term_shown(term):
    check_term(term)
    return term_written(term)


def term_read(text):
    reader = Reader(text)
    term = term_from(reader, 1)
    reader.wants_end()
    # The text may have the right form and yet write too many terms, or
    # kinds or names that are none, or names that fall or come twice.
    if not is_term(term):
        raise BadNote("what is written is no term")
    return term


def gap_ahead_of(place, word):
    if place == 0:
        return ""
    return ": " if word == "fun" and place == 1 else ", "


def term_written(term):
    pieces = [term[0], "("]
    for place, sort in enumerate(form_of(term[0])):
        pieces.append(gap_ahead_of(place, term[0]))
        pieces.append(thing_written(term[place + 1], sort))
    pieces.append(")")
    return "".join(pieces)


def thing_written(thing, sort):
    if sort == "number":
        return str(thing)
    if sort == "truth":
        return "yes" if thing else "no"
    if sort == "kind":
        return written(thing)
    if sort == "fields":
        return ", ".join([field[0] + ": " + term_written(field[1]) for field in thing])
    if sort == "term":
        return term_written(thing)
    return thing


# The depth is held while reading, so that a text of many opening
# brackets doesn't lead into as many calls.
def term_from(reader, depth):
    if depth > MOST_TERM_DEPTH:
        raise BadNote("too many terms within one another")
    word = reader.word()
    form = form_of(word)
    if form is None:
        raise BadNote("wanted a term")
    reader.wants("(")
    things = [word]
    for place, sort in enumerate(form):
        reader.wants(gap_ahead_of(place, word))
        things.append(thing_from(reader, sort, depth))
    reader.wants(")")
    return tuple(things)


def thing_from(reader, sort, depth):
    if sort == "number":
        return number_from(reader)
    if sort == "truth":
        return truth_from(reader)
    if sort == "kind":
        return kind_from(reader, 1)
    if sort == "fields":
        return fields_from(reader, depth)
    if sort == "term":
        return term_from(reader, depth + 1)
    return reader.word()


# The length is held ahead of reckoning the number, since Python refuses
# to reckon one of too many figures in its own way.
def number_from(reader):
    is_less_than_nought = reader.takes("-")
    figures = reader.figures()
    if not 1 <= len(figures) <= MOST_FIGURES:
        raise BadNote("wanted a number")
    if figures[0] == "0" and (len(figures) > 1 or is_less_than_nought):
        raise BadNote("a needless nought or sign")
    return -int(figures) if is_less_than_nought else int(figures)


def truth_from(reader):
    word = reader.word()
    if word not in ("yes", "no"):
        raise BadNote("wanted a truth")
    return word == "yes"


def fields_from(reader, depth):
    if reader.sees(")"):
        return ()
    fields = [term_field_from(reader, depth)]
    while reader.takes(", "):
        fields.append(term_field_from(reader, depth))
    return tuple(fields)


def term_field_from(reader, depth):
    name = reader.word()
    reader.wants(": ")
    return (name, term_from(reader, depth + 1))
