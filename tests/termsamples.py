"""Terms, things that are no terms, and what such things are held in, for the tests."""

from samples import ANY, BAD, NUM, TRUTH, box, boxes, may, must, names, open_row, row, to, wide

MOST = 99999999999999999999
FORM_WORDS = ["num", "truth", "name", "fun", "call", "rec", "get", "or", "if", "plus", "less", "new", "read", "write",
              "as"]


def num(number=5):
    return ("num", number)


def truth(told=True):
    return ("truth", told)


def name(told="x"):
    return ("name", told)


def fun(told, kind, body):
    return ("fun", told, kind, body)


def call(function, argument):
    return ("call", function, argument)


def rec(*fields):
    return ("rec", tuple(fields))


def get(part, told):
    return ("get", part, told)


def either_or(part, told, other):
    return ("or", part, told, other)


def choose(first, second, third):
    return ("if", first, second, third)


def plus(first, second):
    return ("plus", first, second)


def less(first, second):
    return ("less", first, second)


def new(part):
    return ("new", part)


def read(part):
    return ("read", part)


def write(first, second):
    return ("write", first, second)


def as_kind(part, kind):
    return ("as", part, kind)


def news(depth, term=("num", 5)):
    for _ in range(depth):
        term = new(term)
    return term


def wide_rec(count, term=("num", 5)):
    return rec(*[(told, term) for told in names(count)])


# terms, how they are written, how many terms are in them
GOOD_TERMS = [
    (num(0), "num(0)", 1),
    (num(5), "num(5)", 1),
    (num(-5), "num(-5)", 1),
    (num(10), "num(10)", 1),
    (num(-100), "num(-100)", 1),
    (num(MOST), "num(99999999999999999999)", 1),
    (num(-MOST), "num(-99999999999999999999)", 1),
    (num(10 ** 19), "num(10000000000000000000)", 1),
    (truth(True), "truth(yes)", 1),
    (truth(False), "truth(no)", 1),
    (name("x"), "name(x)", 1),
    (name("abcdefgh"), "name(abcdefgh)", 1),
    (name("num"), "name(num)", 1),
    (fun("x", NUM, name("x")), "fun(x: num, name(x))", 2),
    (fun("fun", ANY, num()), "fun(fun: any, num(5))", 2),
    (fun("f", to(NUM, TRUTH), name("f")), "fun(f: (num > truth), name(f))", 2),
    (fun("r", open_row(must("a"), may("b", box(ANY))), num()), "fun(r: {a: num, b?: [any], ..}, num(5))", 2),
    (call(name("f"), num()), "call(name(f), num(5))", 3),
    (rec(), "rec()", 1),
    (rec(("a", num())), "rec(a: num(5))", 2),
    (rec(("a", num()), ("aa", truth()), ("b", rec())), "rec(a: num(5), aa: truth(yes), b: rec())", 4),
    (rec(("yes", num()), ("z", rec(("a", name("z"))))), "rec(yes: num(5), z: rec(a: name(z)))", 4),
    (get(name("x"), "a"), "get(name(x), a)", 2),
    (get(rec(("get", num())), "get"), "get(rec(get: num(5)), get)", 3),
    (either_or(name("x"), "a", num()), "or(name(x), a, num(5))", 3),
    (either_or(rec(), "abcdefgh", rec()), "or(rec(), abcdefgh, rec())", 3),
    (choose(truth(), num(1), num(2)), "if(truth(yes), num(1), num(2))", 4),
    (plus(num(1), num(2)), "plus(num(1), num(2))", 3),
    (less(num(1), num(-2)), "less(num(1), num(-2))", 3),
    (new(num()), "new(num(5))", 2),
    (read(new(num())), "read(new(num(5)))", 3),
    (write(new(num()), num(6)), "write(new(num(5)), num(6))", 4),
    (as_kind(num(), ANY), "as(num(5), any)", 2),
    (as_kind(rec(), row()), "as(rec(), {})", 2),
    (as_kind(name("f"), to(to(ANY, NUM), box(open_row()))), "as(name(f), ((any > num) > [{..}]))", 2),
    (call(fun("x", NUM, plus(name("x"), num(1))), num(2)), "call(fun(x: num, plus(name(x), num(1))), num(2))", 6),
    (choose(less(num(1), num(2)), new(rec(("a", truth(False)))), as_kind(read(name("b")), NUM)),
     "if(less(num(1), num(2)), new(rec(a: truth(no))), as(read(name(b)), num))", 10),
    (write(get(name("r"), "b"), either_or(name("r"), "c", call(name("f"), rec()))),
     "write(get(name(r), b), or(name(r), c, call(name(f), rec())))", 8),
]

# Terms that lie right at the bounds, and how many terms are in them.
TERM_EDGES = [
    (wide_rec(39), 40),
    (wide_rec(19, new(num())), 39),
    (rec(("a", wide_rec(38))), 40),
    (call(wide_rec(19), wide_rec(18)), 40),
    (news(9), 10),
    (news(9, rec()), 10),
    (as_kind(news(8), ANY), 10),
    (fun("x", wide(39), fun("y", boxes(7), news(7))), 10),
    (choose(news(8), news(8), news(8)), 28),
    (as_kind(num(), wide(39)), 2),
    (as_kind(num(), boxes(7)), 2),
]

# Good but for one number that is of more than 20 figures, one term too many, or one too deep.
BEYOND = [
    num(MOST + 1),
    num(-MOST - 1),
    num(10 ** 20),
    num(10 ** 400),
    wide_rec(40),
    wide_rec(41),
    rec(("a", wide_rec(39))),
    call(wide_rec(19), wide_rec(19)),
    wide_rec(20, new(num())),
    news(10),
    news(10, rec()),
    news(11),
    news(200),
    as_kind(news(9), ANY),
    fun("x", NUM, news(9)),
    call(num(), news(9)),
    rec(("a", num()), ("b", news(9))),
]

# Things that are no terms, whatever they stand in.
BAD_TERMS = [
    (),
    ((),),
    ("",),
    ("num",),
    ("num", ()),
    ("num", "5"),
    ("num", True),
    ("num", False),
    ("num", (5,)),
    ("num", num()),
    ("num", 5, 5),
    ("Num", 5),
    ("nums", 5),
    ("any",),
    ("box", num()),
    ("to", num(), num()),
    ("row", (), False),
    (5,),
    (5, "num"),
    (True,),
    (("num", 5),),
    (("num",), 5),
    ("truth",),
    ("truth", 0),
    ("truth", 1),
    ("truth", "yes"),
    ("truth", ()),
    ("truth", truth()),
    ("truth", True, True),
    ("name",),
    ("name", ""),
    ("name", "X"),
    ("name", "a1"),
    ("name", "x "),
    ("name", "x\n"),
    ("name", "a_b"),
    ("name", "abcdefghi"),
    ("name", "\u00e9"),
    ("name", 5),
    ("name", True),
    ("name", ()),
    ("name", ("x",)),
    ("name", "x", "x"),
    ("fun",),
    ("fun", "x"),
    ("fun", "x", NUM),
    ("fun", "x", num()),
    ("fun", "x", num(), NUM),
    ("fun", "x", num(), num()),
    ("fun", "x", NUM, NUM),
    ("fun", "x", NUM, num(), num()),
    ("fun", NUM, "x", num()),
    ("fun", "", NUM, num()),
    ("fun", "X", NUM, num()),
    ("fun", "abcdefghi", NUM, num()),
    ("fun", 5, NUM, num()),
    ("fun", name("x"), NUM, num()),
    ("fun", "x", "num", num()),
    ("fun", "x", 5, num()),
    ("fun", "x", True, num()),
    ("fun", "x", NUM, "x"),
    ("fun", "x", NUM, 5),
    ("fun", "x", NUM, ()),
    ("call",),
    ("call", num()),
    ("call", num(), num(), num()),
    ("call", (num(), num())),
    ("call", num(), ()),
    ("call", (), num()),
    ("call", num(), 5),
    ("call", "f", num()),
    ("call", True, num()),
    ("rec",),
    ("rec", (), ()),
    ("rec", ""),
    ("rec", "a"),
    ("rec", 5),
    ("rec", True),
    ("rec", num()),
    ("rec", ((),)),
    ("rec", ("",)),
    ("rec", ("ab",)),
    ("rec", (5,)),
    ("rec", ("a", num())),
    ("rec", ("a", num()), ("b", num())),
    ("rec", (("a",),)),
    ("rec", (("a", num(), num()),)),
    ("rec", (("a", "must", num()),)),
    ("rec", (("a", 5),)),
    ("rec", (("a", "b"),)),
    ("rec", (("a", ()),)),
    ("rec", (("a", NUM),)),
    ("rec", ((num(), "a"),)),
    ("rec", (("", num()),)),
    ("rec", (("A", num()),)),
    ("rec", (("a1", num()),)),
    ("rec", (("abcdefghi", num()),)),
    ("rec", ((5, num()),)),
    ("rec", ((("a",), num()),)),
    rec(("a", num()), ("a", num())),
    rec(("a", num()), ("a", truth())),
    rec(("b", num()), ("a", num())),
    rec(("aa", num()), ("a", num())),
    rec(("a", num()), ("c", num()), ("b", num())),
    rec(("a", num()), ("b", num()), ("a", num())),
    ("get",),
    ("get", num()),
    ("get", "a"),
    ("get", "a", num()),
    ("get", num(), ""),
    ("get", num(), "A"),
    ("get", num(), "abcdefghi"),
    ("get", num(), 5),
    ("get", num(), ("a",)),
    ("get", num(), name("a")),
    ("get", num(), "a", num()),
    ("get", (), "a"),
    ("get", "x", "a"),
    ("or",),
    ("or", num(), "a"),
    ("or", num(), num()),
    ("or", num(), num(), num()),
    ("or", num(), "", num()),
    ("or", num(), "A", num()),
    ("or", num(), 5, num()),
    ("or", num(), "a", "b"),
    ("or", num(), "a", ()),
    ("or", "a", num(), num()),
    ("or", num(), num(), "a"),
    ("or", num(), "a", num(), num()),
    ("if",),
    ("if", truth()),
    ("if", truth(), num()),
    ("if", truth(), num(), num(), num()),
    ("if", True, num(), num()),
    ("if", truth(), 5, num()),
    ("if", truth(), num(), ()),
    ("plus",),
    ("plus", num()),
    ("plus", num(), num(), num()),
    ("plus", 5, 5),
    ("plus", num(), 5),
    ("plus", 5, num()),
    ("less",),
    ("less", num()),
    ("less", num(), num(), num()),
    ("less", num(), ()),
    ("new",),
    ("new", ()),
    ("new", 5),
    ("new", NUM),
    ("new", num(), num()),
    ("read",),
    ("read", ()),
    ("read", "x"),
    ("read", num(), num()),
    ("write",),
    ("write", num()),
    ("write", num(), num(), num()),
    ("write", num(), 5),
    ("write", "x", num()),
    ("as",),
    ("as", num()),
    ("as", NUM),
    ("as", NUM, num()),
    ("as", num(), num()),
    ("as", num(), "num"),
    ("as", num(), 5),
    ("as", num(), True),
    ("as", num(), ("row", (), 0)),
    ("as", num(), ("row", (), 1)),
    ("as", num(), ("row", ((5, "must", NUM),), False)),
    ("as", num(), ("row", (("a", 5, NUM),), False)),
    ("as", num(), ("row", (("a", "must", 5),), False)),
    ("as", num(), ("box", 5)),
    ("as", num(), (5,)),
    ("as", num(), NUM, NUM),
    ("as", 5, NUM),
    ("as", (), NUM),
] + [("as", num(), kind) for kind in BAD] + [("fun", "x", kind, num()) for kind in BAD]


def term_held(thing):
    """Good terms but for the thing, which stands in each at the place of some part."""
    return [
        fun("x", NUM, thing),
        call(thing, num()),
        call(num(), thing),
        rec(("a", thing)),
        rec(("a", num()), ("b", thing), ("c", num())),
        get(thing, "a"),
        either_or(thing, "a", num()),
        either_or(num(), "a", thing),
        choose(thing, num(), num()),
        choose(truth(), thing, num()),
        choose(truth(), num(), thing),
        plus(thing, num()),
        plus(num(), thing),
        less(thing, num()),
        less(num(), thing),
        new(thing),
        read(thing),
        write(thing, num()),
        write(num(), thing),
        as_kind(thing, ANY),
        new(rec(("a", as_kind(call(num(), thing), TRUTH)))),
    ]
