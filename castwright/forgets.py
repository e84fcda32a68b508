"""Forgetting: terms with kinds no more known."""

from castwright.kinds import kinds_in
from castwright.kinds import kinds_within
from castwright.known import is_less
from castwright.terms import check_term
from castwright.terms import form_of
from castwright.terms import parts_of


def forgettings(term):
    check_term(term)
    return less_terms(term)


def forgotten(term):
    check_term(term)
    return without_kinds(term)


def less_term(one, other):
    check_term(one)
    check_term(other)
    if without_kinds(one) != without_kinds(other):
        return False
    return all([is_less(left, right) for left, right in zip(all_told(one), all_told(other))])


def kinds_told(term):
    check_term(term)
    return sum([len(kinds_in(kind)) for kind in all_told(term)])


# The kinds that the term itself tells: one, or none.
def told_by(term):
    return [thing for sort, thing in zip(form_of(term[0]), term[1:]) if sort == "kind"]


def all_told(term):
    found = told_by(term)
    for part in parts_of(term):
        found.extend(all_told(part))
    return found


def without_kinds(term):
    bare = with_parts(term, [without_kinds(part) for part in parts_of(term)])
    return with_kind(bare, ("any",))


def less_terms(term):
    found = []
    for kind in told_by(term):
        found.extend([with_kind(term, less) for less in less_kinds(kind)])
    parts = parts_of(term)
    for number, part in enumerate(parts):
        found.extend([with_parts(term, with_one(parts, number, less)) for less in less_terms(part)])
    return found


def less_kinds(kind):
    found = [] if kind[0] == "any" else [("any",)]
    if kind[0] == "row" and not kind[2]:
        found.append(("row", kind[1], True))
    inner = kinds_within(kind)
    for number, part in enumerate(inner):
        found.extend([with_kinds_within(kind, with_one(inner, number, less)) for less in less_kinds(part)])
    return found


def with_one(things, number, thing):
    return things[:number] + [thing] + things[number + 1:]


def with_kinds_within(kind, inner):
    if kind[0] != "row":
        return (kind[0],) + tuple(inner)
    fields = [(field[0], field[1], part) for field, part in zip(kind[1], inner)]
    return ("row", tuple(fields), kind[2])


# A term that tells no kind stays as it is.
def with_kind(term, kind):
    sorts = form_of(term[0])
    return (term[0],) + tuple([kind if sort == "kind" else thing for sort, thing in zip(sorts, term[1:])])


def with_parts(term, parts):
    if term[0] == "rec":
        return ("rec", tuple([(field[0], part) for field, part in zip(term[1], parts)]))
    things = [term[0]]
    number = 0
    for sort, thing in zip(form_of(term[0]), term[1:]):
        things.append(parts[number] if sort == "term" else thing)
        number += 1 if sort == "term" else 0
    return tuple(things)
