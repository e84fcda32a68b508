"""Runs: what a term comes to with some fuel, and which cast is to blame where it comes to nothing."""

from castwright.errors import NoNumber
from castwright.kinds import entry_of
from castwright.terms import judged
from castwright.terms import kind_at
from castwright.terms import parts_of

MOST_FUEL = 120
OTHER_SIDE = {"out": "in", "in": "out"}
# The words whose first part must come to a value of some head, and that head.
HEADS = {"call": "to", "get": "row", "or": "row", "read": "box", "write": "box"}


# The two ways in which a run ends ahead of its time.
class Spent(Exception):
    pass


class Blame(Exception):
    def __init__(self, path, side):
        self.path = path
        self.side = side


class Run:
    def __init__(self, whole, fuel):
        self.whole = whole
        self.fuel = fuel


# A term within the whole one, and what the names in force there stand for.
class Place:
    def __init__(self, term, path, names):
        self.term = term
        self.path = path
        self.names = names

    def part(self, number):
        return Place(parts_of(self.term)[number], self.path + (number,), self.names)


# What is told of a row is made with it: a row may hold one row at many
# places, and that one another, so that to walk them all would take too long.
class Row:
    def __init__(self, fields):
        self.fields = fields
        self.told = tuple([(name, told_of(fields[name])) for name in sorted(fields)])


class Function:
    def __init__(self, kind, place):
        self.kind = kind
        self.place = place

    def body(self, argument):
        names = dict(self.place.names)
        names[self.place.term[1]] = argument
        return Place(self.place.term[3], self.place.path + (0,), names)


class Box:
    def __init__(self, kind, inside):
        self.kind = kind
        self.inside = inside


class Cover:
    def __init__(self, kind, beneath, path, side):
        self.kind = kind
        self.beneath = beneath
        self.path = path
        self.side = side


def outcome(term, fuel):
    judged(term)
    if not 0 <= fuel <= MOST_FUEL:
        raise NoNumber("the fuel is not 0 to 120")
    try:
        value = reckoned(Run(term, fuel), Place(term, (), {}))
    except Spent:
        return ("spent",)
    except Blame as e:
        return ("blame", e.path, e.side)
    return ("value", told_of(value))


def told_of(value):
    if isinstance(value, int):
        return value
    if isinstance(value, Row):
        return value.told
    return ("fun",) if value.kind[0] == "to" else ("box",)


def reckoned(run, place):
    if run.fuel == 0:
        raise Spent("no fuel is left")
    run.fuel -= 1
    term = place.term
    word = term[0]
    if word in ("num", "truth"):
        return term[1]
    if word == "name":
        return place.names[term[1]]
    if word == "fun":
        return Function(kind_at(run.whole, place.path), place)
    if word == "rec":
        return row_reckoned(run, place)
    if word == "new":
        return Box(kind_at(run.whole, place.path), reckoned(run, place.part(0)))
    if word == "as":
        return part_as(term[2], 0, run, place)
    if word == "if":
        return choice_reckoned(run, place)
    if word in ("plus", "less"):
        first = part_as(("num",), 0, run, place)
        second = part_as(("num",), 1, run, place)
        return first + second if word == "plus" else first < second
    return use_reckoned(run, place)


def use_reckoned(run, place):
    word = place.term[0]
    first = first_part_of(HEADS[word], run, place)
    if word == "call":
        return called(first, run, place)
    if word == "get":
        return field_of(first, place)
    if word == "or":
        return field_or_part(first, run, place)
    if word == "read":
        return read_from(first)
    value = part_as(first.kind[1], 1, run, place)
    write_into(first, value)
    return value


def part_as(kind, number, run, place):
    part = place.part(number)
    return cast(reckoned(run, part), kind, part.path, "out")


def first_part_of(head, run, place):
    part = place.part(0)
    value = reckoned(run, part)
    if head_of(value) != head:
        raise Blame(part.path, "out")
    return value


def row_reckoned(run, place):
    fields = {}
    for number, field in enumerate(place.term[1]):
        fields[field[0]] = reckoned(run, place.part(number))
    return Row(fields)


def choice_reckoned(run, place):
    chosen = 1 if part_as(("truth",), 0, run, place) else 2
    return part_as(kind_at(run.whole, place.path), chosen, run, place)


def field_of(row, place):
    name = place.term[2]
    if name not in row.fields:
        raise Blame(place.path + (0,), "out")
    return row.fields[name]


def field_or_part(row, run, place):
    name = place.term[2]
    kind = kind_at(run.whole, place.path)
    if name in row.fields:
        return cast(row.fields[name], kind, place.path + (0,), "out")
    return part_as(kind, 1, run, place)


def called(function, run, place):
    argument = part_as(function.kind[1], 1, run, place)
    covers = covers_over(function)
    body = beneath_covers(function).body(cast_inwards(argument, covers))
    return cast_outwards(reckoned(run, body), covers)


def read_from(box):
    return cast_outwards(beneath_covers(box).inside, covers_over(box))


def write_into(box, value):
    bare = beneath_covers(box)
    bare.inside = cast_inwards(value, covers_over(box))


# Covers are walked by loops, not by recursion: there may be many of them
# over one another.
def beneath_covers(value):
    while isinstance(value, Cover):
        value = value.beneath
    return value


# The outermost one first.
def covers_over(value):
    covers = []
    while isinstance(value, Cover):
        covers.append(value)
        value = value.beneath
    return covers


# A function's in and a box's inside both stand first in their kinds, a
# function's out and a box's inside both last.
def cast_inwards(value, covers):
    for cover in covers:
        value = cast(value, cover.beneath.kind[1], cover.path, OTHER_SIDE[cover.side])
    return value


def cast_outwards(value, covers):
    for cover in reversed(covers):
        value = cast(value, cover.kind[-1], cover.path, cover.side)
    return value


def head_of(value):
    # A truth is a whole number too, as Python takes it.
    if isinstance(value, bool):
        return "truth"
    if isinstance(value, int):
        return "num"
    return "row" if isinstance(value, Row) else value.kind[0]


def cast(value, kind, path, side):
    if kind[0] == "any":
        return value
    if head_of(value) != kind[0]:
        raise Blame(path, side)
    if kind[0] == "row":
        return row_cast(value, kind, path, side)
    if kind[0] in ("num", "truth") or value.kind == kind:
        return value
    return Cover(kind, value, path, side)


def row_cast(row, kind, path, side):
    if any([field[1] == "must" and field[0] not in row.fields for field in kind[1]]):
        raise Blame(path, side)
    fields = {}
    for name, value in row.fields.items():
        entry = entry_of(kind, name)
        if entry[0] == "none":
            raise Blame(path, side)
        fields[name] = value if entry[0] == "free" else cast(value, entry[1], path, side)
    return Row(fields)
