"""A second way of reckoning terms, by functions over functions, to hold the runs against."""

from castwright.kinds import entry_of
from castwright.terms import judged
from termsamples import fun


class Ended(Exception):
    pass


class Fun:
    def __init__(self, kind, go):
        self.kind = kind
        self.go = go


class Cell:
    def __init__(self, kind, take, put):
        self.kind = kind
        self.take = take
        self.put = put


def parts(term):
    """The parts of a term, found by their words alone."""
    if term[0] == "rec":
        return [part for _, part in term[1]]
    places = {"fun": [3], "call": [1, 2], "get": [1], "or": [1, 3], "if": [1, 2, 3], "plus": [1, 2], "less": [1, 2],
              "new": [1], "read": [1], "write": [1, 2], "as": [1]}
    return [term[at] for at in places.get(term[0], [])]


def kind_where(term, around):
    """The judged kind of a term within functions, asked of the term with these functions alone around it."""
    for told, kind in reversed(around):
        term = fun(told, kind, term)
    kind = judged(term)
    for _ in around:
        kind = kind[2]
    return kind


def kinds_where(term, around=()):
    """The judged kinds of a term and of all terms within it, where they stand."""
    yield kind_where(term, around)
    if term[0] == "fun":
        around = around + ((term[1], term[2]),)
    for part in parts(term):
        yield from kinds_where(part, around)


def other(side):
    return "in" if side == "out" else "out"


def head(value):
    for sort, told in ((bool, "truth"), (int, "num"), (dict, "row"), (Fun, "to"), (Cell, "box")):
        if isinstance(value, sort):
            return told


def cast(value, kind, path, side):
    if kind[0] == "any":
        return value
    if head(value) != kind[0]:
        raise Ended("blame", path, side)
    if kind[0] in ("num", "truth"):
        return value
    if kind[0] == "row":
        return cast_row(value, kind, path, side)
    if value.kind == kind:
        return value
    if kind[0] == "to":
        def go(argument):
            return cast(value.go(cast(argument, value.kind[1], path, other(side))), kind[2], path, side)
        return Fun(kind, go)

    def put(thing):
        value.put(cast(thing, value.kind[1], path, other(side)))
    return Cell(kind, lambda: cast(value.take(), kind[1], path, side), put)


def cast_row(value, kind, path, side):
    told = {name for name, _, _ in kind[1]}
    needed = {name for name, mark, _ in kind[1] if mark == "must"}
    if not needed <= set(value) or (not kind[2] and not set(value) <= told):
        raise Ended("blame", path, side)
    return {name: cast(inner, entry_of(kind, name)[1], path, side) if name in told else inner
            for name, inner in value.items()}


class Reckoner:
    def __init__(self, fuel):
        self.fuel = fuel

    def reckon(self, term, path, names, around):
        if not self.fuel:
            raise Ended("spent")
        self.fuel -= 1
        return getattr(self, "do_" + term[0])(term, path, names, around)

    def part(self, number, term, path, names, around, kind=("any",)):
        at = path + (number,)
        return cast(self.reckon(parts(term)[number], at, names, around), kind, at, "out")

    def first(self, wanted, term, path, names, around):
        value = self.part(0, term, path, names, around)
        if head(value) != wanted:
            raise Ended("blame", path + (0,), "out")
        return value

    def do_num(self, term, path, names, around):
        return term[1]

    do_truth = do_num

    def do_name(self, term, path, names, around):
        return names[term[1]]

    def do_fun(self, term, path, names, around):
        def go(argument):
            return self.reckon(term[3], path + (0,), {**names, term[1]: argument}, around + ((term[1], term[2]),))
        return Fun(kind_where(term, around), go)

    def do_call(self, term, path, names, around):
        function = self.first("to", term, path, names, around)
        return function.go(self.part(1, term, path, names, around, function.kind[1]))

    def do_rec(self, term, path, names, around):
        return {name: self.part(at, term, path, names, around) for at, (name, _) in enumerate(term[1])}

    def do_get(self, term, path, names, around):
        row = self.first("row", term, path, names, around)
        if term[2] not in row:
            raise Ended("blame", path + (0,), "out")
        return row[term[2]]

    def do_or(self, term, path, names, around):
        row = self.first("row", term, path, names, around)
        kind = kind_where(term, around)
        if term[2] in row:
            return cast(row[term[2]], kind, path + (0,), "out")
        return self.part(1, term, path, names, around, kind)

    def do_if(self, term, path, names, around):
        first = self.part(0, term, path, names, around, ("truth",))
        return self.part(1 if first else 2, term, path, names, around, kind_where(term, around))

    def do_plus(self, term, path, names, around):
        return sum([self.part(at, term, path, names, around, ("num",)) for at in (0, 1)])

    def do_less(self, term, path, names, around):
        one, two = [self.part(at, term, path, names, around, ("num",)) for at in (0, 1)]
        return one < two

    def do_new(self, term, path, names, around):
        held = [self.part(0, term, path, names, around)]
        return Cell(("box", kind_where(term[1], around)), lambda: held[-1], held.append)

    def do_read(self, term, path, names, around):
        return self.first("box", term, path, names, around).take()

    def do_write(self, term, path, names, around):
        cell = self.first("box", term, path, names, around)
        value = self.part(1, term, path, names, around, cell.kind[1])
        cell.put(value)
        return value

    def do_as(self, term, path, names, around):
        return self.part(0, term, path, names, around, term[2])


def told(value):
    if isinstance(value, dict):
        return tuple((name, told(value[name])) for name in sorted(value))
    return {"to": ("fun",), "box": ("box",)}.get(head(value), value)


def second_outcome(term, fuel):
    try:
        return ("value", told(Reckoner(fuel).reckon(term, (), {}, ())))
    except Ended as e:
        return e.args
