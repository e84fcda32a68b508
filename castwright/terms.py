"""Terms: what is one, the terms in it, and the kind as which it is judged."""

from castwright.errors import BadUse
from castwright.errors import NoTerm
from castwright.kinds import entry_of
from castwright.kinds import is_kind
from castwright.kinds import is_made_of
from castwright.kinds import is_name
from castwright.kinds import names_rise
from castwright.serving import does_serve
from castwright.serving import either_of

MOST_TERMS = 40
MOST_TERM_DEPTH = 10
MOST_FIGURES = 20
MOST_NUMBER = 99999999999999999999
# What stands behind each word of a term, in order.
FORMS = {
    "num": ("number",),
    "truth": ("truth",),
    "name": ("name",),
    "fun": ("name", "kind", "term"),
    "call": ("term", "term"),
    "rec": ("fields",),
    "get": ("term", "name"),
    "or": ("term", "name", "term"),
    "if": ("term", "term", "term"),
    "plus": ("term", "term"),
    "less": ("term", "term"),
    "new": ("term",),
    "read": ("term",),
    "write": ("term", "term"),
    "as": ("term", "kind"),
}
# What a part of the kind any is taken for where a head is wanted of it.
UNKNOWN = {"to": ("to", ("any",), ("any",)), "box": ("box", ("any",)), "row": ("row", (), True)}


def terms_in(term):
    check_term(term)
    return count_of(term)


def judged(term):
    check_term(term)
    return kind_of(term, {}, ())


def check_term(thing):
    if not is_term(thing):
        raise NoTerm("this is no term")


def is_term(thing):
    return is_made_of(thing, has_term_form, parts_of, MOST_TERMS, MOST_TERM_DEPTH)


def count_of(term):
    return 1 + sum([count_of(part) for part in parts_of(term)])


# None where the word is none of a term.
def form_of(word):
    return FORMS.get(word)


def parts_of(term):
    if term[0] == "rec":
        return [field[1] for field in term[1]]
    return [thing for sort, thing in zip(form_of(term[0]), term[1:]) if sort == "term"]


# Says nothing of the things that stand where parts should: they are looked
# at in their own turn.
def has_term_form(thing):
    if not isinstance(thing, tuple) or len(thing) == 0 or not isinstance(thing[0], str):
        return False
    form = form_of(thing[0])
    if form is None or len(thing) != 1 + len(form):
        return False
    return all([is_of_sort(part, sort) for part, sort in zip(thing[1:], form)])


def is_of_sort(thing, sort):
    if sort == "number":
        return is_number(thing)
    if sort == "truth":
        return isinstance(thing, bool)
    if sort == "name":
        return is_name(thing)
    if sort == "kind":
        return is_kind(thing)
    if sort == "fields":
        return are_term_fields(thing)
    return True


def is_number(thing):
    # A truth is a whole number too, as Python takes it.
    if not isinstance(thing, int) or isinstance(thing, bool):
        return False
    return -MOST_NUMBER <= thing <= MOST_NUMBER


def are_term_fields(thing):
    if not isinstance(thing, tuple):
        return False
    return all([is_term_field(part) for part in thing]) and names_rise([part[0] for part in thing])


def is_term_field(thing):
    # A text of two letters has two parts too.
    return isinstance(thing, tuple) and len(thing) == 2 and is_name(thing[0])


# Of a term within a whole one that is judged. The names in force there have
# the kinds that the functions around it tell.
def kind_at(whole, path):
    term = whole
    names = {}
    for number in path:
        if term[0] == "fun":
            names[term[1]] = term[2]
        term = parts_of(term)[number]
    return kind_of(term, names, path)


# In names the names that have a kind where the term stands, with these
# kinds; the path is that of the term.
def kind_of(term, names, path):
    word = term[0]
    if word in ("num", "truth"):
        return (word,)
    if word == "name":
        return kind_of_name(term[1], names, path)
    if word == "fun":
        return kind_of_fun(term, names, path)
    if word == "rec":
        return kind_of_rec(term, names, path)
    if word == "as":
        hold_part(term, 0, term[2], names, path)
        return term[2]
    if word == "if":
        hold_part(term, 0, ("truth",), names, path)
        second = kind_of_part(term, 1, names, path)
        return either_of(second, kind_of_part(term, 2, names, path))
    if word in ("plus", "less"):
        hold_part(term, 0, ("num",), names, path)
        hold_part(term, 1, ("num",), names, path)
        return ("num",) if word == "plus" else ("truth",)
    if word == "new":
        return ("box", kind_of_part(term, 0, names, path))
    return kind_of_use(term, names, path)


# Of the words whose first part must be of some head.
def kind_of_use(term, names, path):
    if term[0] == "get":
        return kind_of_get(term, names, path)
    if term[0] == "or":
        return kind_of_or(term, names, path)
    if term[0] == "call":
        function = first_part_as("to", term, names, path)
        hold_part(term, 1, function[1], names, path)
        return function[2]
    box = first_part_as("box", term, names, path)
    if term[0] == "write":
        hold_part(term, 1, box[1], names, path)
    return box[1]


def kind_of_part(term, number, names, path):
    return kind_of(parts_of(term)[number], names, path + (number,))


def hold_part(term, number, wanted, names, path):
    if not does_serve(kind_of_part(term, number, names, path), wanted):
        raise BadUse(path + (number,))


def first_part_as(head, term, names, path):
    found = kind_of_part(term, 0, names, path)
    if found[0] == "any":
        return UNKNOWN[head]
    if found[0] != head:
        raise BadUse(path + (0,))
    return found


def kind_of_name(name, names, path):
    if name not in names:
        raise BadUse(path)
    return names[name]


def kind_of_fun(term, names, path):
    within = dict(names)
    within[term[1]] = term[2]
    return ("to", term[2], kind_of_part(term, 0, within, path))


def kind_of_rec(term, names, path):
    fields = []
    for number, field in enumerate(term[1]):
        fields.append((field[0], "must", kind_of_part(term, number, names, path)))
    return ("row", tuple(fields), False)


def kind_of_get(term, names, path):
    entry = entry_of(first_part_as("row", term, names, path), term[2])
    if entry[0] in ("may", "none"):
        raise BadUse(path + (0,))
    return ("any",) if entry[0] == "free" else entry[1]


def kind_of_or(term, names, path):
    entry = entry_of(first_part_as("row", term, names, path), term[2])
    second = kind_of_part(term, 1, names, path)
    if entry[0] == "free":
        return ("any",)
    if entry[0] == "none":
        return second
    return either_of(entry[1], second)
