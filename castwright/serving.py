"""Serving: when a value of one kind may be used as one of another, and the kind of either of two."""

from castwright.kinds import check_kinds
from castwright.kinds import entry_of
from castwright.kinds import names_of_both
from castwright.kinds import row_of
from castwright.known import behind
from castwright.known import clash_of
from castwright.known import join_of

# The first texts of two entries of which the one serves as the other, if
# their kinds do.
SERVING = (("none", "none"), ("none", "may"), ("must", "must"), ("must", "may"), ("may", "may"))


def serves(one, other):
    check_kinds(one, other)
    return does_serve(one, other)


def first_lack(one, other):
    check_kinds(one, other)
    return lack_of(one, other)


def either(one, other):
    check_kinds(one, other)
    return either_of(one, other)


# From here on the bounds of kinds are not held, since kinds that are told
# may go beyond them.
def does_serve(one, other):
    return lack_of(one, other) is None


def lack_of(one, other):
    if "any" in (one[0], other[0]):
        return None
    if one[0] != other[0]:
        return ()
    if one[0] == "to":
        return lack_of_functions(one, other)
    if one[0] == "box":
        return behind("inside", clash_of(one[1], other[1]))
    if one[0] == "row":
        return lack_of_rows(one, other)
    return None


# The ins are turned about: the first function is handed what the second
# one may be handed.
def lack_of_functions(one, other):
    found = behind("in", lack_of(other[1], one[1]))
    if found is not None:
        return found
    return behind("out", lack_of(one[2], other[2]))


def lack_of_rows(one, other):
    for name in names_of_both(one, other):
        found = lack_of_entries(entry_of(one, name), entry_of(other, name))
        if found is not None:
            return behind(name, found)
    return None


def lack_of_entries(one, other):
    if "free" in (one[0], other[0]):
        return None
    if (one[0], other[0]) not in SERVING:
        return ()
    return None if one[0] == "none" else lack_of(one[1], other[1])


def either_of(one, other):
    if one[0] != other[0]:
        return ("any",)
    if one[0] == "to":
        return ("to", join_of(one[1], other[1]), either_of(one[2], other[2]))
    if one[0] == "box":
        return ("box", join_of(one[1], other[1]))
    if one[0] == "row":
        return either_of_rows(one, other)
    return one


def either_of_rows(one, other):
    names = names_of_both(one, other)
    entries = [either_of_entries(entry_of(one, name), entry_of(other, name)) for name in names]
    return row_of(names, entries, one[2] or other[2])


# Of a name that at least one of both rows tells.
def either_of_entries(one, other):
    if "free" in (one[0], other[0]):
        return ("free",)
    if one[0] == "none":
        return ("may", other[1])
    if other[0] == "none":
        return ("may", one[1])
    mark = "must" if one[0] == other[0] == "must" else "may"
    return (mark, either_of(one[1], other[1]))
