"""Kinds, things that are no kinds, and changes of both, for the tests."""

ANY = ("any",)
NUM = ("num",)
TRUTH = ("truth",)


def to(taken, given):
    return ("to", taken, given)


def box(inside):
    return ("box", inside)


def must(name, kind=NUM):
    return (name, "must", kind)


def may(name, kind=NUM):
    return (name, "may", kind)


def row(*fields):
    return ("row", tuple(fields), False)


def open_row(*fields):
    return ("row", tuple(fields), True)


def names(count):
    """Rising names of two letters."""
    letters = "abcdefghijklmnopqrstuvwxyz"
    return [one + other for one in letters for other in letters][:count]


def wide(count, kind=NUM):
    return row(*[must(name, kind) for name in names(count)])


def boxes(depth, kind=NUM):
    for _ in range(depth):
        kind = box(kind)
    return kind


def nested_rows(depth, kind=NUM):
    for _ in range(depth):
        kind = row(must("a", kind))
    return kind


def nested_ins(depth, kind=NUM):
    for _ in range(depth):
        kind = to(kind, NUM)
    return kind


def nested_outs(depth, kind=NUM):
    for _ in range(depth):
        kind = to(NUM, kind)
    return kind


# kind, its text, how many kinds are in it, whether it is known, whether it is of data
GOOD = [
    (ANY, "any", 1, False, True),
    (NUM, "num", 1, True, True),
    (TRUTH, "truth", 1, True, True),
    (to(NUM, TRUTH), "(num > truth)", 3, True, False),
    (to(ANY, NUM), "(any > num)", 3, False, False),
    (to(NUM, ANY), "(num > any)", 3, False, False),
    (box(NUM), "[num]", 2, True, False),
    (box(ANY), "[any]", 2, False, False),
    (row(), "{}", 1, True, True),
    (open_row(), "{..}", 1, False, True),
    (row(must("a")), "{a: num}", 2, True, True),
    (row(may("a")), "{a?: num}", 2, True, True),
    (open_row(must("a")), "{a: num, ..}", 2, False, True),
    (open_row(may("a")), "{a?: num, ..}", 2, False, True),
    (row(must("a"), may("b", TRUTH)), "{a: num, b?: truth}", 3, True, True),
    (open_row(may("a", TRUTH), must("aa"), may("b")), "{a?: truth, aa: num, b?: num, ..}", 4, False, True),
    (row(must("a", ANY)), "{a: any}", 2, False, True),
    (row(must("any"), must("num", TRUTH), may("truth", ANY)), "{any: num, num: truth, truth?: any}", 4, False, True),
    (row(must("a"), must("z", box(NUM))), "{a: num, z: [num]}", 4, True, False),
    (row(must("a"), may("z", to(NUM, NUM))), "{a: num, z?: (num > num)}", 5, True, False),
    (row(may("abcdefgh")), "{abcdefgh?: num}", 2, True, True),
    (box(box(TRUTH)), "[[truth]]", 3, True, False),
    (to(to(NUM, TRUTH), box(row())), "((num > truth) > [{}])", 6, True, False),
    (to(NUM, to(NUM, NUM)), "(num > (num > num))", 5, True, False),
    (to(row(must("a", open_row())), NUM), "({a: {..}} > num)", 4, False, False),
    (box(open_row(must("f", to(NUM, TRUTH)))), "[{f: (num > truth), ..}]", 5, False, False),
    (row(must("a", row(may("b", row(must("c")))))), "{a: {b?: {c: num}}}", 4, True, True),
    (open_row(must("a", row()), may("b", open_row())), "{a: {}, b?: {..}, ..}", 3, False, True),
]

# Things that are no kinds, whatever they stand in.
BAD = [
    (),
    ((),),
    ("",),
    ("nums",),
    ("Any",),
    ("numb",),
    ("fun", NUM, NUM),
    ("must", NUM),
    (True,),
    (False,),
    (NUM,),
    (("box", NUM),),
    ("any", ANY),
    ("num", NUM),
    ("num", ()),
    ("truth", True),
    ("to",),
    ("to", NUM),
    ("to", NUM, NUM, NUM),
    ("to", NUM, "num"),
    ("to", "num", NUM),
    ("to", NUM, True),
    ("to", False, NUM),
    ("to", (), NUM),
    ("to", NUM, ()),
    ("to", (NUM, NUM)),
    ("box",),
    ("box", NUM, NUM),
    ("box", "num"),
    ("box", True),
    ("box", ()),
    ("row",),
    ("row", ()),
    ("row", True),
    ("row", True, ()),
    ("row", (), True, True),
    ("row", (), ()),
    ("row", (), "True"),
    ("row", (), "open"),
    ("row", (), ""),
    ("row", (), (True,)),
    ("row", "", False),
    ("row", "a", False),
    ("row", True, False),
    ("row", False, True),
    ("row", must("a"), False),
    ("row", ((),), False),
    ("row", ("",), False),
    ("row", ("abc",), False),
    ("row", (True,), False),
    ("row", (NUM,), False),
    ("row", (("a",),), False),
    ("row", (("a", "must"),), False),
    ("row", (("a", NUM),), False),
    ("row", (("must", NUM),), False),
    ("row", (("a", "must", NUM, NUM),), False),
    ("row", (("a", "must", NUM, True),), False),
    ("row", (("a", "must", "num"),), False),
    ("row", (("a", "must", True),), False),
    ("row", (("a", "must", ()),), False),
    ("row", (("a", "", NUM),), False),
    ("row", (("a", "mus", NUM),), False),
    ("row", (("a", "Must", NUM),), False),
    ("row", (("a", "none", NUM),), False),
    ("row", (("a", "free", NUM),), False),
    ("row", (("a", True, NUM),), False),
    ("row", (("a", (), NUM),), False),
    ("row", (("a", ("must",), NUM),), False),
    ("row", (("a", NUM, "must"),), False),
    ("row", (("must", "a", NUM),), False),
    ("row", (("", "must", NUM),), False),
    ("row", (("abcdefghi", "must", NUM),), False),
    ("row", (("A", "must", NUM),), False),
    ("row", (("aB", "must", NUM),), False),
    ("row", (("a1", "must", NUM),), False),
    ("row", (("1", "must", NUM),), False),
    ("row", (("a b", "must", NUM),), False),
    ("row", ((" a", "must", NUM),), False),
    ("row", (("a?", "must", NUM),), False),
    ("row", (("a_b", "must", NUM),), False),
    ("row", (("a\n", "must", NUM),), False),
    ("row", (("`", "must", NUM),), False),
    ("row", (("{", "must", NUM),), False),
    ("row", (("\u00e9", "must", NUM),), False),
    ("row", (("\u03b1", "must", NUM),), False),
    ("row", ((True, "must", NUM),), False),
    ("row", (((), "must", NUM),), False),
    ("row", ((("a",), "must", NUM),), False),
    row(must("a"), must("a")),
    row(must("a"), may("a")),
    open_row(may("a"), may("a", TRUTH)),
    row(must("b"), must("a")),
    open_row(must("b"), must("a")),
    row(must("aa"), must("a")),
    row(must("a"), must("c"), must("b")),
    row(must("a"), must("b"), must("a")),
    row(must("a"), must("b"), must("b")),
    row(must("a", box("num")), must("b")),
    row(must("a"), must("b", ())),
    wide(40),
    wide(41),
    wide(20, box(NUM)),
    to(wide(19), wide(19)),
    boxes(8),
    boxes(9),
    boxes(100),
    nested_rows(8),
    nested_ins(8),
    nested_outs(8),
    to(NUM, boxes(7, row(must("a")))),
]

# Kinds that lie right at the bounds.
EDGES = [
    (wide(39), 40),
    (wide(39, ANY), 40),
    (to(wide(18), wide(18)), 39),
    (to(wide(18), wide(19)), 40),
    (box(wide(37)), 39),
    (box(wide(38)), 40),
    (row(*[must(name, box(NUM)) for name in names(19)]), 39),
    (open_row(*[must(name, box(NUM)) for name in names(19)], must("zz")), 40),
    (boxes(7), 8),
    (nested_rows(7), 8),
    (nested_ins(7), 15),
    (nested_outs(7), 15),
    (boxes(7, ANY), 8),
    (to(boxes(6), boxes(6, row())), 15),
    (box(nested_rows(6, row())), 8),
]


def held(thing):
    """Good kinds but for the thing, which stands somewhere in each."""
    return [
        box(thing),
        to(thing, NUM),
        to(NUM, thing),
        row(must("a", thing)),
        open_row(must("a"), may("b", thing)),
        row(must("a", thing), may("b", TRUTH)),
        box(row(must("a"), must("b", to(ANY, thing)))),
    ]


def changed(thing):
    """Every thing that comes of one by one small change, somewhere in it."""
    found = [(), "", "num", "a", "must", "may", "row", True, False, NUM, row(), must("a"), ("a", "must")]
    if isinstance(thing, tuple):
        for at in range(len(thing)):
            found.append(thing[:at] + thing[at + 1:])
            found.append(thing[:at] + (thing[at],) + thing[at:])
            found.append(thing[:at] + thing[at:][::-1])
            for part in changed(thing[at]):
                found.append(thing[:at] + (part,) + thing[at + 1:])
    return found


def small_rows():
    """Rows of the names a and b, with many entries of both, open and closed."""
    found = []
    fields = [make("a", kind) for make in (must, may) for kind in (ANY, NUM, TRUTH)]
    for first in [[]] + [[field] for field in fields]:
        for second in ([], [must("b")], [may("b", ANY)], [may("b")]):
            found.append(row(*first, *second))
            found.append(open_row(*first, *second))
    return found


def small_kinds():
    """Kinds of each head, small enough that each can be held against each."""
    leaves = [ANY, NUM, TRUTH]
    found = leaves + small_rows()
    found += [to(taken, given) for taken in leaves for given in leaves]
    found += [box(inside) for inside in leaves + [row(), open_row(), row(must("a")), open_row(must("a")), row(may("a"))]]
    found += [to(row(must("a")), NUM), to(row(may("a")), NUM), to(open_row(), ANY), to(NUM, row(may("a")))]
    found += [to(to(NUM, TRUTH), NUM), to(to(ANY, TRUTH), NUM), to(to(TRUTH, TRUTH), ANY), to(NUM, to(NUM, NUM))]
    found += [box(box(NUM)), box(box(ANY)), box(to(NUM, ANY)), box(to(ANY, NUM)), to(box(NUM), box(ANY))]
    for inner in (row(), row(must("b")), row(may("b")), open_row(), box(NUM), to(ANY, NUM), to(NUM, NUM)):
        found += [row(must("a", inner)), open_row(may("a", inner)), row(may("a", inner))]
    return found


def forgotten_once(kind):
    """What comes of a kind by one small step down: a part unknown, a row open, a field of an open row left out."""
    found = [ANY]
    if kind[0] == "to":
        found += [to(taken, kind[2]) for taken in forgotten_once(kind[1])]
        found += [to(kind[1], given) for given in forgotten_once(kind[2])]
    if kind[0] == "box":
        found += [box(inside) for inside in forgotten_once(kind[1])]
    if kind[0] == "row":
        found.append(open_row(*kind[1]))
        for at, (name, mark, inner) in enumerate(kind[1]):
            if kind[2]:
                found.append(open_row(*kind[1][:at], *kind[1][at + 1:]))
            for less in forgotten_once(inner):
                found.append(("row", kind[1][:at] + ((name, mark, less),) + kind[1][at + 1:], kind[2]))
    return found


def all_below(kind):
    """Every kind that is no more known than one, reckoned by small steps down from it."""
    seen = {kind}
    fresh = [kind]
    while fresh:
        for less in forgotten_once(fresh.pop()):
            if less not in seen:
                seen.add(less)
                fresh.append(less)
    return seen
