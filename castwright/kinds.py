"""Kinds: what is one, what is in it, and the entries of rows."""

from castwright.errors import NoKind

MOST_KINDS = 40
MOST_DEPTH = 8
MOST_LETTERS = 8
MARKS = ("must", "may")
LENGTHS = {"any": 1, "num": 1, "truth": 1, "to": 3, "box": 2, "row": 3}


def parts_in(kind):
    check_kind(kind)
    return len(kinds_in(kind))


def entry_of(row, name):
    for field in row[1]:
        if field[0] == name:
            return (field[1], field[2])
    return ("free",) if row[2] else ("none",)


def names_of(row):
    return [field[0] for field in row[1]]


# In order, since of two names the first in order is told first.
def names_of_both(one, other):
    return sorted(set(names_of(one)) | set(names_of(other)))


# A name whose entry is free is not told in the row.
def row_of(names, entries, is_open):
    fields = [(name,) + entry for name, entry in zip(names, entries) if entry != ("free",)]
    return ("row", tuple(fields), is_open)


def is_known(kind):
    check_kind(kind)
    return not any([leaves_unknown(part) for part in kinds_in(kind)])


def is_data(kind):
    check_kind(kind)
    return not any([part[0] in ("to", "box") for part in kinds_in(kind)])


def leaves_unknown(kind):
    return kind[0] == "any" or (kind[0] == "row" and kind[2])


def check_kind(thing):
    if not is_kind(thing):
        raise NoKind("this is no kind")


def check_kinds(one, other):
    check_kind(one)
    check_kind(other)


def is_kind(thing):
    return is_made_of(thing, has_form, kinds_within, MOST_KINDS, MOST_DEPTH)


# Walked layer by layer, not by recursion: the bounds then end the walk
# before it can grow far beyond them, however large the thing is.
def is_made_of(thing, is_formed, things_within, most, deepest):
    layer = [thing]
    count = 0
    depth = 0
    while len(layer) > 0:
        count += len(layer)
        depth += 1
        if count > most or depth > deepest:
            return False
        if not all([is_formed(part) for part in layer]):
            return False
        layer = layer_within(layer, things_within)
    return True


def layer_within(layer, things_within):
    found = []
    for thing in layer:
        found.extend(things_within(thing))
    return found


# The kinds in a kind in the order in which they stand, itself first. The
# bounds are not held here, since kinds that are told may go beyond them.
def kinds_in(kind):
    found = [kind]
    for inner in kinds_within(kind):
        found.extend(kinds_in(inner))
    return found


def kinds_within(kind):
    if kind[0] == "row":
        return [field[2] for field in kind[1]]
    return list(kind[1:])


# Says nothing of the things that stand where kinds straight within should:
# they are looked at in their own turn.
def has_form(thing):
    if not isinstance(thing, tuple) or len(thing) == 0 or not isinstance(thing[0], str):
        return False
    if len(thing) != LENGTHS.get(thing[0]):
        return False
    # A whole number would pass for a truth if it were only compared.
    return thing[0] != "row" or (are_fields(thing[1]) and isinstance(thing[2], bool))


def are_fields(thing):
    if not isinstance(thing, tuple):
        return False
    return all([is_field(part) for part in thing]) and names_rise([part[0] for part in thing])


def is_field(thing):
    # A text of three letters has three parts too.
    if not isinstance(thing, tuple) or len(thing) != 3:
        return False
    return is_name(thing[0]) and thing[1] in MARKS


def is_name(thing):
    if not isinstance(thing, str) or not 1 <= len(thing) <= MOST_LETTERS:
        return False
    return all([is_small_letter(sign) for sign in thing])


# Not islower: it takes letters beyond z for small ones too.
def is_small_letter(sign):
    return "a" <= sign <= "z"


def names_rise(names):
    return all([one < other for one, other in zip(names, names[1:])])
