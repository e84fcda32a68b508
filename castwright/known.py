"""Knowing less: which kind is no more known, what two meet in, where they clash, what they are joined."""

from castwright.kinds import check_kinds
from castwright.kinds import entry_of
from castwright.kinds import names_of_both
from castwright.kinds import row_of

STEPS = {"any": (), "num": (), "truth": (), "to": ("in", "out"), "box": ("inside",)}


def knows_less(one, other):
    check_kinds(one, other)
    return is_less(one, other)


def met(one, other):
    check_kinds(one, other)
    if clash_of(one, other) is not None:
        return None
    return meet_of(one, other)


def first_clash(one, other):
    check_kinds(one, other)
    return clash_of(one, other)


def clashes(one, other, path):
    check_kinds(one, other)
    return clash_at(one, other, path)


def joined(one, other):
    check_kinds(one, other)
    return join_of(one, other)


# From here on the bounds of kinds are not held, since kinds that are told
# may go beyond them.
def is_less(one, other):
    if one[0] == "any":
        return True
    if one[0] != other[0]:
        return False
    if one[0] == "row":
        return is_less_row(one, other)
    return all([is_less(left, right) for left, right in zip(one[1:], other[1:])])


def is_less_row(one, other):
    if other[2] and not one[2]:
        return False
    names = names_of_both(one, other)
    return all([is_less_entry(entry_of(one, name), entry_of(other, name)) for name in names])


def is_less_entry(one, other):
    if one[0] == "free":
        return True
    if one[0] != other[0]:
        return False
    return one[0] == "none" or is_less(one[1], other[1])


def behind(step, path):
    return None if path is None else (step,) + path


def clash_of(one, other):
    if "any" in (one[0], other[0]):
        return None
    if one[0] != other[0]:
        return ()
    if one[0] == "row":
        return clash_of_rows(one, other)
    for step, left, right in zip(STEPS[one[0]], one[1:], other[1:]):
        found = clash_of(left, right)
        if found is not None:
            return behind(step, found)
    return None


def clash_of_rows(one, other):
    for name in names_of_both(one, other):
        found = clash_of_entries(entry_of(one, name), entry_of(other, name))
        if found is not None:
            return behind(name, found)
    return None


def clash_of_entries(one, other):
    if "free" in (one[0], other[0]):
        return None
    if one[0] != other[0]:
        return ()
    return None if one[0] == "none" else clash_of(one[1], other[1])


def clash_at(one, other, path):
    if one[0] != other[0]:
        return path == () and "any" not in (one[0], other[0])
    if path == ():
        return False
    if one[0] == "row":
        return clash_at_name(entry_of(one, path[0]), entry_of(other, path[0]), path[1:])
    for step, left, right in zip(STEPS[one[0]], one[1:], other[1:]):
        if step == path[0]:
            return clash_at(left, right, path[1:])
    return False


def clash_at_name(one, other, path):
    if "free" in (one[0], other[0]):
        return False
    if one[0] != other[0]:
        return path == ()
    return one[0] != "none" and clash_at(one[1], other[1], path)


# Of two kinds that don't clash.
def meet_of(one, other):
    if one[0] == "any":
        return other
    if other[0] == "any":
        return one
    if one[0] == "row":
        return meet_of_rows(one, other)
    return (one[0],) + tuple([meet_of(left, right) for left, right in zip(one[1:], other[1:])])


def meet_of_rows(one, other):
    names = names_of_both(one, other)
    entries = [meet_of_entries(entry_of(one, name), entry_of(other, name)) for name in names]
    return row_of(names, entries, one[2] and other[2])


def meet_of_entries(one, other):
    if one[0] == "free":
        return other
    if other[0] == "free":
        return one
    return (one[0], meet_of(one[1], other[1]))


def join_of(one, other):
    if one[0] != other[0]:
        return ("any",)
    if one[0] == "row":
        return join_of_rows(one, other)
    return (one[0],) + tuple([join_of(left, right) for left, right in zip(one[1:], other[1:])])


# A row that isn't open can't leave a name free, so one name on which both
# rows don't agree opens it.
def join_of_rows(one, other):
    names = names_of_both(one, other)
    entries = [join_of_entries(entry_of(one, name), entry_of(other, name)) for name in names]
    return row_of(names, entries, one[2] or other[2] or ("free",) in entries)


# Of a name that at least one of both rows tells.
def join_of_entries(one, other):
    if one[0] != other[0]:
        return ("free",)
    return (one[0], join_of(one[1], other[1]))
