"""Makes terms that are judged, always the same ones, of all words and of kinds of which more or less is known."""

import random

from castwright.errors import BadUse
from castwright.kinds import is_kind
from castwright.serving import does_serve
from castwright.terms import is_term, judged
from samples import ANY, NUM, TRUTH, box, may, must, open_row, row, to
from termsamples import as_kind, call, choose, either_or, fun, get, less, name, new, num, plus, read, rec, truth, write

LEAVES = [ANY, NUM, NUM, TRUTH]


class Maker:
    def __init__(self, seed, wild=0.3):
        self.chance = random.Random(seed)
        self.wild = wild

    def is_wild(self):
        return self.chance.random() < self.wild

    def pick(self, things):
        return things[self.chance.randrange(len(things))]

    def kind(self, depth):
        head = self.pick(["leaf", "to", "box", "row"]) if depth else "leaf"
        if head == "leaf":
            kind = self.pick(LEAVES)
            return self.pick([NUM, TRUTH]) if kind == ANY and not self.is_wild() else kind
        if head == "to":
            return to(self.kind(depth - 1), self.kind(depth - 1))
        if head == "box":
            return box(self.kind(depth - 1))
        fields = [self.pick([must, may])(told, self.kind(depth - 1)) for told in "ab" if self.pick([0, 1])]
        return open_row(*fields) if self.is_wild() else row(*fields)

    def term(self, goal, around, depth):
        """A term that likely serves as a goal, with the kinds of the names around it."""
        if self.is_wild() and depth > 1 and self.pick([0, 1]):
            return as_kind(as_kind(self.term(self.kind(1), around, depth - 2), ANY), goal)
        fitting = [told for told in around if does_serve(around[told], goal)]
        if fitting and (depth <= 1 or self.pick([0, 0, 1])):
            return name(self.pick(fitting))
        if depth <= 1 or self.pick([0, 1]):
            return self.plain(goal, around, depth)
        return self.used(goal, around, depth)

    def plain(self, goal, around, depth):
        head = goal[0]
        if head == "any":
            return self.plain(self.kind(1), around, depth)
        if head == "num":
            return num(self.pick([0, 1, 2, -3]))
        if head == "truth":
            return truth(self.pick([True, False]))
        if head == "to":
            told = self.pick(["x", "y"])
            taken = ANY if self.is_wild() else goal[1]
            return fun(told, taken, self.term(goal[2], {**around, told: taken}, depth - 1))
        if head == "box":
            return new(self.exact(goal[1], around, depth - 1))
        fields = [(told, self.term(kind, around, depth - 1)) for told, mark, kind in goal[1]
                  if mark == "must" or self.pick([0, 1])]
        if goal[2] and self.pick([0, 1]):
            fields.append(("c", self.term(self.kind(0), around, depth - 1)))
        return rec(*fields)

    def exact(self, kind, around, depth):
        return as_kind(self.term(kind, around, depth - 1), kind)

    def used(self, goal, around, depth):
        word = self.pick(["call", "call", "call", "get", "or", "if", "read", "write", "as", "sum", "twice", "let",
                          "covered", "covered", "changed"])
        deeper = depth - 1
        if word == "sum" and goal in (NUM, TRUTH, ANY):
            make = {NUM: plus, TRUTH: less, ANY: self.pick([plus, less])}[goal]
            return make(self.term(NUM, around, deeper), self.term(NUM, around, deeper))
        if word == "if":
            parts = [self.term(goal, around, deeper) for _ in range(2)]
            return choose(self.term(TRUTH, around, deeper), *parts)
        if word == "get":
            return get(self.term(self.pick([row, open_row])(must("a", goal)), around, deeper), "a")
        if word == "or":
            of = self.pick([row, open_row])(self.pick([must, may])("a", goal))
            return either_or(self.term(of, around, deeper), "a", self.term(goal, around, deeper))
        if word == "read":
            return read(self.term(box(goal), around, deeper))
        if word == "write":
            return write(self.term(box(goal), around, deeper), self.term(goal, around, deeper))
        if word == "as":
            return as_kind(self.term(goal, around, deeper), goal)
        if word == "let":
            kind = self.kind(2)
            told = self.pick(["x", "y", "z"])
            body = self.term(goal, {**around, told: kind}, deeper - 1)
            return call(fun(told, kind, body), self.term(kind, around, deeper))
        if word == "twice":
            first = self.term(ANY, around, deeper - 1)
            return get(rec(("a", first), ("b", self.term(goal, around, deeper - 1))), "b")
        if word == "covered":
            return self.covered(goal, around, deeper)
        if word == "changed":
            return self.changed(goal, around, deeper)
        taken = self.kind(1)
        return call(self.term(to(taken, goal), around, deeper), self.term(taken, around, deeper))

    def recast(self, term, kind):
        """A term cast as of a kind, and perhaps as of others ahead of it."""
        for _ in range(self.pick([0, 0, 1, 2])):
            term = as_kind(term, self.pick([ANY, self.loose(kind)]))
        return as_kind(as_kind(term, ANY), kind)

    def loose(self, kind):
        """The kind of a function or box with perhaps other kinds in it."""
        inner = [self.pick([part, part, ANY, self.kind(1)]) for part in kind[1:]]
        return (kind[0],) + tuple(inner)

    def covered(self, goal, around, depth):
        taken = self.kind(1)
        kind = self.pick([to(taken, goal), to(taken, goal), box(goal)])
        bare = self.recast(self.plain(self.loose(kind), around, depth - 4), kind)
        if kind[0] == "to":
            return call(bare, self.term(taken, around, depth - 1))
        return self.pick([read(bare), write(bare, self.term(goal, around, depth - 1))])

    def changed(self, goal, around, depth):
        """A box that is written and read by names, each of which sees it by a cover of its own."""
        first = self.loose(box(goal))
        use = write(self.recast(name("w"), self.loose(box(goal))), self.term(self.kind(0), around, depth - 4))
        body = get(rec(("a", use), ("b", read(self.recast(name("w"), box(goal))))), "b")
        return call(fun("w", self.pick([ANY, first]), body), self.plain(first, around, depth - 1))


def is_judged(term):
    try:
        judged(term)
    except BadUse:
        return False
    return True


def made_terms(count, seed, wild=0.3):
    """Terms of some size, each of them judged."""
    maker = Maker(seed, wild)
    found = []
    while len(found) < count:
        goal = maker.kind(2)
        term = maker.term(goal, {}, maker.pick([3, 5, 7, 9]))
        if is_kind(goal) and is_term(term) and is_judged(term):
            found.append(term)
    return found
