"""Data: values, when one fits a kind, and values that part one kind from another one."""

from castwright.errors import NoKind
from castwright.errors import NoValue
from castwright.kinds import entry_of
from castwright.kinds import is_data
from castwright.kinds import is_made_of
from castwright.kinds import is_name
from castwright.kinds import names_of
from castwright.kinds import names_of_both
from castwright.kinds import names_rise
from castwright.known import behind

MOST_VALUES = 100
MOST_VALUE_DEPTH = 10
LETTERS = "abcdefghijklmnopqrstuvwxyz"


def fits(value, kind):
    return misfit(value, kind) is None


def misfit(value, kind):
    check_data_kind(kind)
    check_value(value)
    return misfit_of(value, kind)


def sample_of(kind):
    check_data_kind(kind)
    return sample(kind)


def parting_value(one, other):
    check_data_kind(one)
    check_data_kind(other)
    return parting(one, other)


def check_data_kind(thing):
    if not is_data(thing):
        raise NoKind("this is no kind of data")


def check_value(thing):
    if not is_made_of(thing, has_value_form, values_within, MOST_VALUES, MOST_VALUE_DEPTH):
        raise NoValue("this is no value of data")


def values_within(value):
    return [field[1] for field in value] if isinstance(value, tuple) else []


# Says nothing of the things that stand where values straight within
# should: they are looked at in their own turn.
def has_value_form(thing):
    if isinstance(thing, int):
        return True
    if not isinstance(thing, tuple):
        return False
    return all([is_value_field(part) for part in thing]) and names_rise([part[0] for part in thing])


def is_value_field(thing):
    # A text of two letters has two parts too.
    return isinstance(thing, tuple) and len(thing) == 2 and is_name(thing[0])


def head_of(value):
    # A truth is a whole number too, as Python takes it.
    if isinstance(value, bool):
        return "truth"
    return "num" if isinstance(value, int) else "row"


def misfit_of(value, kind):
    if kind[0] == "any":
        return None
    if head_of(value) != kind[0]:
        return ()
    return misfit_of_row(dict(value), kind) if kind[0] == "row" else None


def misfit_of_row(fields, row):
    for name in sorted(set(fields) | set(names_of(row))):
        found = misfit_of_field(fields, name, entry_of(row, name))
        if found is not None:
            return behind(name, found)
    return None


def misfit_of_field(fields, name, entry):
    if name not in fields:
        return () if entry[0] == "must" else None
    if entry[0] == "none":
        return ()
    return None if entry[0] == "free" else misfit_of(fields[name], entry[1])


def sample(kind):
    if kind[0] == "truth":
        return False
    if kind[0] == "row":
        return tuple([(field[0], sample(field[2])) for field in kind[1] if field[1] == "must"])
    return 0


def parting(one, other):
    if other[0] == "any":
        return None
    if one[0] == "any":
        return sample(("truth",) if other[0] == "num" else ("num",))
    if one[0] != other[0]:
        return sample(one)
    return parting_row(one, other) if one[0] == "row" else None


# One name that neither row tells stands for all such names.
def parting_row(one, other):
    names = names_of_both(one, other)
    for name in names + [name_beyond(names)]:
        found = parting_field(entry_of(one, name), entry_of(other, name))
        if found is not None:
            return sample_with(one, name, found)
    return None


# What a name must have for a row to part one entry from the other: nothing,
# as (), or a value, as (value,). None where no row parts them.
def parting_field(one, other):
    if other[0] == "must" and one[0] != "must":
        return ()
    if one[0] == "none" or other[0] == "free":
        return None
    kind = ("any",) if one[0] == "free" else one[1]
    if other[0] == "none":
        return (sample(kind),)
    found = parting(kind, other[1])
    return None if found is None else (found,)


def sample_with(row, name, found):
    fields = dict(sample(row))
    if found != ():
        fields[name] = found[0]
    return tuple([(told, fields[told]) for told in sorted(fields)])


# Two rows tell far fewer names than there are of two letters.
def name_beyond(names):
    number = 0
    while two_letters(number) in names:
        number += 1
    return two_letters(number)


def two_letters(number):
    return LETTERS[number // len(LETTERS)] + LETTERS[number % len(LETTERS)]
