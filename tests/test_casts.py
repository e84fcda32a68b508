import unittest

from castwright.runs import outcome
from castwright.termnotes import term_read

# A value of each head, by its text and by what is told of it.
HEADS = {
    "num": ("num(1)", 1),
    "truth": ("truth(yes)", True),
    "row": ("rec()", ()),
    "to": ("fun(x: num, name(x))", ("fun",)),
    "box": ("new(num(1))", ("box",)),
}

# Kinds of each head, as which a value of that head in HEADS stays.
KINDS = {
    "num": ["num"],
    "truth": ["truth"],
    "row": ["{}", "{..}", "{a?: num}", "{a?: (num > num), ..}"],
    "to": ["(num > num)", "(any > any)", "(truth > truth)", "([num] > {..})"],
    "box": ["[num]", "[any]", "[truth]", "[(num > num)]"],
}

# rows, kinds, and whether the cast ends well
ROWS = [
    ("rec()", "{}", True),
    ("rec()", "{..}", True),
    ("rec()", "{a: num}", False),
    ("rec()", "{a: num, ..}", False),
    ("rec()", "{a: any}", False),
    ("rec()", "{a?: num}", True),
    ("rec()", "{a?: num, ..}", True),
    ("rec(a: num(1))", "{}", False),
    ("rec(a: num(1))", "{..}", True),
    ("rec(a: num(1))", "{a: num}", True),
    ("rec(a: num(1))", "{a: any}", True),
    ("rec(a: num(1))", "{a: truth}", False),
    ("rec(a: num(1))", "{a?: num}", True),
    ("rec(a: num(1))", "{a?: truth}", False),
    ("rec(a: num(1))", "{a?: truth, ..}", False),
    ("rec(a: num(1))", "{a: num, ..}", True),
    ("rec(a: num(1))", "{b: num}", False),
    ("rec(a: num(1))", "{b: num, ..}", False),
    ("rec(a: num(1))", "{b?: num}", False),
    ("rec(a: num(1))", "{b?: num, ..}", True),
    ("rec(a: num(1))", "{a: num, b: num}", False),
    ("rec(a: num(1))", "{a: num, b?: num}", True),
    ("rec(a: num(1), b: truth(no))", "{a: num, b: truth}", True),
    ("rec(a: num(1), b: truth(no))", "{a: num, b: num}", False),
    ("rec(a: num(1), b: truth(no))", "{a: truth, b: truth}", False),
    ("rec(a: num(1), b: truth(no))", "{a: num}", False),
    ("rec(a: num(1), b: truth(no))", "{b: truth}", False),
    ("rec(a: num(1), b: truth(no))", "{a: num, ..}", True),
    ("rec(a: num(1), b: truth(no))", "{b?: truth, ..}", True),
    ("rec(a: num(1), b: truth(no))", "{b?: num, ..}", False),
    ("rec(a: rec(b: num(1)))", "{a: {b: num}}", True),
    ("rec(a: rec(b: num(1)))", "{a: {b: truth}}", False),
    ("rec(a: rec(b: num(1)))", "{a: {..}}", True),
    ("rec(a: rec(b: num(1)))", "{a: {}}", False),
    ("rec(a: rec(b: num(1)))", "{a?: {b?: num, c?: num}, ..}", True),
    ("rec(a: rec(b: num(1)))", "{a?: {c: num, ..}, ..}", False),
    ("rec(a: rec(b: num(1)))", "{a: num}", False),
    ("rec(a: rec(), b: rec(c: num(1)), d: truth(yes))", "{a: {}, b: {c: num}, d: truth}", True),
    ("rec(a: rec(), b: rec(c: num(1)), d: truth(yes))", "{a: {}, b: {c: num}, d: num}", False),
    ("rec(a: rec(), b: rec(c: num(1)), d: truth(yes))", "{b: {c: any}, ..}", True),
    ("rec(a: fun(x: num, name(x)))", "{a: (truth > truth)}", True),
    ("rec(a: fun(x: num, name(x)))", "{a: [num]}", False),
    ("rec(a: new(num(1)))", "{a: [truth]}", True),
    ("rec(a: new(num(1)))", "{a: (num > num)}", False),
]


def run(text, fuel=120):
    return outcome(term_read(text), fuel)


def unknown(text, kind):
    """A text of a term cast as of a kind, whatever its own is; the cast is at the path (0,) of it."""
    return f"as(as({text}, any), {kind})"


# A function, cast as of the kind by the term at (0,), so at (0, 0); then called.
def covered_call(function, kind, argument):
    return f"call({unknown(function, kind)}, {argument})"


SAME = "fun(x: num, name(x))"

# texts of terms with covered functions, and what they come to: what is told, or the path and side
FUNCTIONS = [
    (covered_call(SAME, "(num > num)", "num(1)"), 1),
    (covered_call(SAME, "(any > any)", "num(1)"), 1),
    (covered_call(SAME, "(any > num)", "num(1)"), 1),
    # What is handed in is held against the cover's kind at the argument's own path, then against the kind beneath.
    (covered_call(SAME, "(num > num)", "as(truth(no), any)"), ((1,), "out")),
    (covered_call(SAME, "(any > any)", "truth(no)"), ((0, 0), "in")),
    (covered_call(SAME, "(truth > any)", "truth(no)"), ((0, 0), "in")),
    (covered_call(SAME, "(truth > any)", "as(num(1), any)"), ((1,), "out")),
    (covered_call(SAME, "({..} > any)", "rec()"), ((0, 0), "in")),
    (covered_call("fun(x: any, name(x))", "(num > num)", "as(truth(no), any)"), ((1,), "out")),
    (covered_call("fun(x: {a: num}, get(name(x), a))", "({..} > num)", "rec(a: num(1))"), 1),
    (covered_call("fun(x: {a: num}, get(name(x), a))", "({..} > num)", "rec(a: truth(no))"), ((0, 0), "in")),
    (covered_call("fun(x: {a: num}, get(name(x), a))", "({..} > num)", "rec()"), ((0, 0), "in")),
    (covered_call("fun(x: {a: num}, get(name(x), a))", "({..} > num)", "rec(a: num(1), b: num(2))"), ((0, 0), "in")),
    # What is told is held against the out of the cover's kind.
    (covered_call(SAME, "(num > truth)", "num(1)"), ((0, 0), "out")),
    (covered_call(SAME, "(any > truth)", "num(1)"), ((0, 0), "out")),
    (covered_call("fun(x: any, name(x))", "(num > truth)", "num(1)"), ((0, 0), "out")),
    (covered_call("fun(x: any, rec(a: name(x)))", "(num > {a: num})", "num(1)"), (("a", 1),)),
    (covered_call("fun(x: any, rec(a: name(x)))", "(num > {a: truth})", "num(1)"), ((0, 0), "out")),
    (covered_call("fun(x: any, rec(a: name(x)))", "(num > {})", "num(1)"), ((0, 0), "out")),
    (covered_call("fun(x: any, rec(a: name(x)))", "(num > {a: num, b: num})", "num(1)"), ((0, 0), "out")),
    # No cast through the unknown kind is needed where the one kind serves as the other.
    ("call(as(fun(x: any, name(x)), (num > truth)), num(1))", ((0, 0), "out")),
    ("call(as(fun(x: num, name(x)), (any > num)), truth(no))", ((0, 0), "in")),
    # Within the function another cast is to blame, at its own path.
    (covered_call("fun(x: num, as(as(name(x), any), truth))", "(any > any)", "num(1)"), ((0, 0, 0, 0, 0), "out")),
    # A function that tells a function: its cover is on the same side.
    (f"call({covered_call('fun(x: any, ' + SAME + ')', '(num > (any > any))', 'num(1)')}, num(2))", 2),
    (f"call({covered_call('fun(x: any, ' + SAME + ')', '(num > (any > any))', 'num(1)')}, rec())", ((0, 0, 0), "in")),
    (f"call({covered_call('fun(x: any, ' + SAME + ')', '(num > (any > truth))', 'num(1)')}, num(2))",
     ((0, 0, 0), "out")),
    # A function that is handed one: the cover of that one is on the other side.
    (covered_call("fun(g: (num > num), call(name(g), num(1)))", "((any > any) > any)", "fun(y: any, name(y))"), 1),
    (covered_call("fun(g: (num > num), call(name(g), num(1)))", "((any > any) > any)", "fun(y: any, truth(no))"),
     ((0, 0), "in")),
    (covered_call("fun(g: (any > any), call(name(g), truth(no)))", "((num > num) > any)", SAME), ((0, 0), "out")),
    (covered_call("fun(g: (any > any), call(name(g), num(1)))", "((num > truth) > any)", "fun(y: num, truth(no))"),
     False),
    # At the argument's own path what the caller hands in is to blame for what it tells.
    (covered_call("fun(g: any, call(name(g), num(1)))", "((num > truth) > any)", "fun(y: any, name(y))"),
     ((1,), "out")),
    (covered_call("fun(g: any, call(name(g), truth(no)))", "((any > any) > any)", SAME), ((1,), "in")),
    # Two functions further in the side is turned about twice.
    (covered_call("fun(h: ((num > num) > num), call(name(h), fun(y: num, name(y))))", "(any > any)",
                  "fun(g: (any > any), call(name(g), truth(no)))"), ((0, 0), "in")),
    (covered_call("fun(h: ((any > any) > any), call(name(h), fun(y: any, truth(no))))", "(((num > num) > any) > any)",
                  "fun(g: (num > num), call(name(g), num(1)))"), ((0, 0), "out")),
    (covered_call("fun(h: ((any > any) > any), call(name(h), fun(y: num, name(y))))", "(((num > num) > any) > any)",
                  "fun(g: (num > num), as(call(name(g), num(1)), any))"), 1),
    (covered_call("fun(h: ((num > any) > any), call(name(h), fun(y: num, name(y))))", "(((any > any) > any) > any)",
                  "fun(g: (any > any), call(name(g), truth(no)))"), ((0, 0), "in")),
]

# Covers over covers: the inner cast is at (0, 0, 0, 0), the outer one at (0, 0).
TWO_COVERS = [
    (covered_call(unknown(SAME, "(any > any)"), "(num > any)", "num(1)"), 1),
    (covered_call(unknown(SAME, "(truth > any)"), "(any > any)", "rec()"), ((0, 0), "in")),
    (covered_call(unknown(SAME, "(truth > any)"), "(any > any)", "truth(no)"), ((0, 0, 0, 0), "in")),
    (covered_call(unknown(SAME, "(any > any)"), "(truth > any)", "truth(no)"), ((0, 0, 0, 0), "in")),
    (covered_call(unknown(SAME, "(any > truth)"), "(any > any)", "num(1)"), ((0, 0, 0, 0), "out")),
    (covered_call(unknown(SAME, "(any > any)"), "(any > truth)", "num(1)"), ((0, 0), "out")),
    (covered_call(unknown(SAME, "(any > truth)"), "(any > {})", "num(1)"), ((0, 0, 0, 0), "out")),
    (covered_call(unknown("fun(x: any, name(x))", "(truth > truth)"), "(num > num)", "num(1)"), ((0, 0), "in")),
    # A cover of the very kind that the function has itself is none.
    (covered_call(unknown(SAME, "(any > any)"), "(any > any)", "truth(no)"), ((0, 0, 0, 0), "in")),
    (covered_call(unknown(unknown(SAME, "(any > any)"), "(num > any)"), "(any > any)", "truth(no)"),
     ((0, 0), "in")),
]

# Boxes: those of a term new at (0, 0, 0), cast at (0, 0).
BOXES = [
    (f"read({unknown('new(num(1))', '[num]')})", 1),
    (f"read({unknown('new(num(1))', '[any]')})", 1),
    (f"read({unknown('new(num(1))', '[truth]')})", ((0, 0), "out")),
    (f"read({unknown('new(rec(a: num(1)))', '[{a: num}]')})", (("a", 1),)),
    (f"read({unknown('new(rec(a: num(1)))', '[{a: truth}]')})", ((0, 0), "out")),
    ("read(as(new(as(num(1), any)), [truth]))", ((0, 0), "out")),
    # What is written is held against the inside of the cover's kind, then against that of the kind beneath.
    (f"write({unknown('new(num(1))', '[any]')}, num(2))", 2),
    (f"write({unknown('new(num(1))', '[any]')}, truth(no))", ((0, 0), "in")),
    (f"write({unknown('new(num(1))', '[truth]')}, truth(no))", ((0, 0), "in")),
    (f"write({unknown('new(num(1))', '[truth]')}, as(num(1), any))", ((1,), "out")),
    (f"write({unknown('new(as(num(1), any))', '[truth]')}, truth(no))", False),
    (f"write({unknown('new(as(num(1), any))', '[truth]')}, as(num(1), any))", ((1,), "out")),
    ("write(as(new(num(1)), any), truth(no))", ((1,), "out")),
    ("write(as(new(num(1)), any), num(2))", 2),
    # Covers over covers.
    (f"read({unknown(unknown('new(num(1))', '[truth]'), '[{}]')})", ((0, 0, 0, 0), "out")),
    (f"read({unknown(unknown('new(num(1))', '[any]'), '[truth]')})", ((0, 0), "out")),
    (f"read({unknown(unknown('new(num(1))', '[truth]'), '[num]')})", ((0, 0, 0, 0), "out")),
    (f"write({unknown(unknown('new(num(1))', '[truth]'), '[any]')}, rec())", ((0, 0), "in")),
    (f"write({unknown(unknown('new(num(1))', '[truth]'), '[any]')}, truth(no))", ((0, 0, 0, 0), "in")),
    (f"write({unknown(unknown('new(num(1))', '[any]'), '[truth]')}, truth(no))", ((0, 0, 0, 0), "in")),
    # Boxes in boxes: what is read beneath is a box, covered at the same path and side.
    (f"read(read({unknown('new(new(num(1)))', '[[truth]]')}))", ((0, 0, 0), "out")),
    (f"write(read({unknown('new(new(num(1)))', '[[truth]]')}), truth(no))", ((0, 0, 0), "in")),
    # Functions in boxes: read, they are covered on the cover's side.
    (f"call(read({unknown('new(' + SAME + ')', '[(any > any)]')}), truth(no))", ((0, 0, 0), "in")),
    (f"call(read({unknown('new(' + SAME + ')', '[(any > truth)]')}), num(1))", ((0, 0, 0), "out")),
]


def wrote_then(box, kind, written, then):
    """A box by the name b, written through a cover of some kind; then something is done with the name."""
    through = unknown("name(b)", kind)
    return f"call(fun(b: any, get(rec(a: write({through}, {written}), b: {then}), b)), {box})"


# What was written through a cover, as it is in the box from then on.
WRITTEN = [
    (wrote_then("new(num(1))", "[any]", "num(2)", "read(name(b))"), 2),
    (wrote_then("new(num(1))", "[num]", "num(2)", "read(name(b))"), 2),
    (wrote_then("new(as(num(1), any))", "[truth]", "truth(no)", "read(name(b))"), False),
    (wrote_then("new(as(num(1), any))", "[num]", "num(2)", "read(" + unknown("name(b)", "[truth]") + ")"),
     ((0, 0, 0, 1, 0, 0), "out")),
    # The box's own kind stays what it was.
    (wrote_then("new(as(num(1), any))", "[num]", "num(2)", "write(name(b), truth(no))"), False),
    (wrote_then("new(num(1))", "[any]", "num(2)", "write(name(b), truth(no))"), ((0, 0, 0, 1, 1), "out")),
    # A function is covered on its way in: at the path of the part, and then at the cover's on the other side.
    (wrote_then(f"new({SAME})", "[(any > any)]", "fun(y: any, truth(no))", "call(read(name(b)), num(1))"),
     ((0, 0, 0, 0, 0, 0), "in")),
    (wrote_then("new(fun(y: any, name(y)))", "[(num > num)]", SAME, "call(read(name(b)), truth(no))"),
     ((0, 0, 0, 0, 0, 0), "out")),
    (wrote_then("new(fun(y: any, name(y)))", "[(num > any)]", SAME, "call(read(name(b)), num(7))"), 7),
    # What the term comes to is cast as of the inside of the cover's kind alone.
    (f"call(write({unknown('new(' + SAME + ')', '[(any > any)]')}, {SAME}), truth(no))", ((0, 1), "in")),
    (f"call(write({unknown('new(fun(y: any, name(y)))', '[(num > num)]')}, {SAME}), as(truth(no), any))",
     ((1,), "out")),
]

# Casts as of the judged kind of the whole, and parts of a wrong head.
WORDS = [
    ("call(as(num(1), any), num(2))", ((0,), "out")),
    ("call(as(truth(no), any), num(2))", ((0,), "out")),
    ("call(as(rec(), any), num(2))", ((0,), "out")),
    ("call(as(new(num(1)), any), num(2))", ((0,), "out")),
    ("call(as(fun(x: num, name(x)), any), num(2))", 2),
    ("get(as(num(1), any), a)", ((0,), "out")),
    ("get(as(fun(x: num, name(x)), any), a)", ((0,), "out")),
    ("get(as(new(num(1)), any), a)", ((0,), "out")),
    ("get(as(truth(no), any), a)", ((0,), "out")),
    ("get(as(rec(), any), a)", ((0,), "out")),
    ("get(as(rec(b: num(1)), {..}), a)", ((0,), "out")),
    ("get(as(rec(b: num(1)), {..}), b)", 1),
    ("or(as(num(1), any), a, num(2))", ((0,), "out")),
    ("or(as(truth(no), any), a, num(2))", ((0,), "out")),
    ("or(as(fun(x: num, name(x)), any), a, num(2))", ((0,), "out")),
    ("or(as(new(num(1)), any), a, num(2))", ((0,), "out")),
    ("read(as(num(1), any))", ((0,), "out")),
    ("read(as(truth(no), any))", ((0,), "out")),
    ("read(as(rec(), any))", ((0,), "out")),
    ("read(as(fun(x: num, name(x)), any))", ((0,), "out")),
    ("write(as(num(1), any), num(2))", ((0,), "out")),
    ("write(as(truth(no), any), num(2))", ((0,), "out")),
    ("write(as(rec(), any), num(2))", ((0,), "out")),
    ("write(as(fun(x: num, name(x)), any), num(2))", ((0,), "out")),
    ("if(as(num(0), any), num(1), num(2))", ((0,), "out")),
    ("if(as(rec(), any), num(1), num(2))", ((0,), "out")),
    ("plus(as(truth(yes), any), num(2))", ((0,), "out")),
    ("less(num(1), as(truth(yes), any))", ((1,), "out")),
    # Of if the judged kind is that of both parts: a function is covered at the path of the chosen one.
    (f"call(if(truth(yes), {SAME}, fun(y: any, name(y))), truth(no))", ((0, 1), "in")),
    (f"call(if(truth(no), fun(y: any, name(y)), {SAME}), truth(no))", ((0, 2), "in")),
    (f"call(if(truth(yes), {SAME}, fun(y: num, name(y))), as(truth(no), any))", ((1,), "out")),
    ("read(if(truth(yes), new(num(1)), new(as(num(2), any))))", 1),
    ("write(if(truth(yes), new(num(1)), new(as(num(2), any))), truth(no))", ((0, 1), "in")),
    ("write(if(truth(no), new(as(num(2), any)), new(num(1))), truth(no))", ((0, 2), "in")),
    # Of or the field's cast is at the path of the first part, the second part's at its own.
    (f"call(or(rec(a: {SAME}), a, fun(y: any, name(y))), truth(no))", ((0, 0), "in")),
    (f"call(or(as(rec(), {{a?: (any > num)}}), a, {SAME}), truth(no))", ((0, 1), "in")),
    (f"call(or(as(rec(a: {SAME}), {{..}}), a, num(1)), truth(no))", ((1,), "out")),
    ("write(or(rec(a: new(num(1))), a, new(as(num(1), any))), truth(no))", ((0, 0), "in")),
    # Of call the argument, at its own path.
    ("call(fun(x: num, name(x)), as(rec(), any))", ((1,), "out")),
    ("call(fun(x: {a: num, ..}, name(x)), as(rec(b: num(1)), {..}))", ((1,), "out")),
    ("call(fun(x: {a: num, ..}, name(x)), as(rec(a: num(2), b: num(1)), {..}))", (("a", 2), ("b", 1))),
    ("write(new(num(1)), as(rec(), any))", ((1,), "out")),
    # Deep within other terms paths are those from the whole term inwards.
    ("rec(a: num(1), b: rec(c: as(as(num(1), any), truth)))", ((1, 0, 0), "out")),
    ("call(fun(f: any, plus(num(1), call(name(f), truth(no)))), fun(x: num, name(x)))", ((0, 0, 1, 1), "out")),
    ("call(fun(f: (any > any), plus(num(1), call(name(f), truth(no)))), fun(x: num, name(x)))", ((1,), "in")),
    # Of get and read nothing is cast, and of new nothing either.
    ("get(as(rec(a: num(1)), any), a)", 1),
    ("call(get(as(rec(a: fun(x: num, name(x))), {..}), a), truth(no))", ((1,), "out")),
    ("call(get(as(rec(a: fun(x: num, name(x))), {a: (any > any)}), a), truth(no))", ((0, 0, 0), "in")),
    ("call(read(as(new(fun(x: num, name(x))), any)), truth(no))", ((1,), "out")),
]


class CastTest(unittest.TestCase):
    def test_each_head_as_of_each(self):
        for head, (text, told) in HEADS.items():
            self.assertEqual(run(f"as({text}, any)"), ("value", told))
            for other, kinds in KINDS.items():
                for kind in kinds:
                    found = ("value", told) if head == other else ("blame", (0,), "out")
                    self.assertEqual(run(unknown(text, kind)), found, (text, kind))

    def test_rows(self):
        for text, kind, is_well in ROWS:
            bare = run(text)
            self.assertEqual(bare[0], "value")
            self.assertEqual(run(unknown(text, kind)), bare if is_well else ("blame", (0,), "out"), (text, kind))

    def test_rows_within_rows(self):
        for text, kind, is_well in ROWS:
            found = run(unknown(f"rec(z: {text})", "{z: " + kind + "}"))
            self.assertEqual(found[0], "value" if is_well else "blame", (text, kind))

    def test_a_truth_is_no_number(self):
        for text in ("truth(yes)", "truth(no)"):
            self.assertEqual(run(unknown(text, "num")), ("blame", (0,), "out"))
        for text in ("num(0)", "num(1)"):
            self.assertEqual(run(unknown(text, "truth")), ("blame", (0,), "out"))

    def test_fields_of_rows_are_cast(self):
        row = "rec(f: fun(x: num, name(x)), g: fun(x: num, name(x)))"
        for kind, name, found in (("{f: (any > any), ..}", "f", ((0, 0, 0, 0), "in")),
                                  ("{f?: (any > any), ..}", "f", ((0, 0, 0, 0), "in")),
                                  ("{f: (any > any), g?: (num > any)}", "f", ((0, 0, 0, 0), "in")),
                                  ("{f: (any > any), g?: (num > any)}", "g", ((1,), "out")),
                                  ("{f: (any > any), ..}", "g", ((1,), "out")),
                                  ("{f: any, g: any}", "f", ((1,), "out")),
                                  ("any", "f", ((1,), "out"))):
            text = f"call(get(as(as(as({row}, any), {kind}), any), {name}), as(truth(no), any))"
            self.assertEqual(run(text), ("blame",) + found, (kind, name))

    def test_a_row_that_was_cast_leaves_the_first_as_it_was(self):
        body = "rec(a: as(name(r), {f: (any > any)}), b: call(get(name(r), f), truth(no)))"
        text = "call(fun(r: any, " + body + "), rec(f: fun(x: num, name(x))))"
        self.assertEqual(run(text), ("blame", (0, 0, 1, 1), "out"))


class CoverTest(unittest.TestCase):
    def test_functions(self):
        self.hold(FUNCTIONS)

    def test_functions_covered_twice(self):
        self.hold(TWO_COVERS)

    def test_boxes(self):
        self.hold(BOXES)

    def test_what_was_written(self):
        self.hold(WRITTEN)

    def test_words(self):
        self.hold(WORDS)

    def test_many_covers(self):
        # Each round covers the function twice more; the call goes through all the covers.
        again = "call(call(call(name(l), name(l)), as(as(name(f), (num > any)), (any > any))), plus(name(n), num(-1)))"
        rounds = f"fun(l: any, fun(f: any, fun(n: num, if(less(num(0), name(n)), {again}, name(f)))))"
        for count in range(5):
            outermost = ("blame", (1, 0, 0, 0, 1, 0, 1, 0), "in")
            for argument, found in (("num(7)", ("value", 7)), ("truth(no)", outermost)):
                covered = f"call(call(call(name(r), name(r)), fun(x: num, name(x))), num({count}))"
                text = f"call(fun(r: any, call({covered}, {argument})), {rounds})"
                if count == 0 and argument == "truth(no)":
                    found = ("blame", (0, 0, 1), "out")
                self.assertEqual(run(text), found, (count, argument))

    def test_covers_grow_by_each_call(self):
        # What a covered function is handed and tells is covered for each of its covers.
        cover = "fun(x: any, name(x))"
        for kind in ["((any > any) > (any > any))", "((num > any) > (num > any))"] * 3:
            cover = f"as({cover}, {kind})"
        use = "call(name(h), call(name(h), call(name(h), fun(y: num, plus(name(y), num(1))))))"
        for argument, found in (("num(1)", ("value", 2)), ("truth(no)", ("blame", (0, 0, 1), "out"))):
            self.assertEqual(run(f"call(fun(h: any, call({use}, {argument})), {cover})"), found)

    def hold(self, table):
        for text, told in table:
            is_blame = isinstance(told, tuple) and len(told) == 2 and told[1] in ("in", "out")
            self.assertEqual(run(text), ("blame",) + told if is_blame else ("value", told), text)
            # Within another term it is the same, at paths from that one inwards.
            within = ("blame", (1,) + told[0], told[1]) if is_blame else ("value", (("a", 1), ("b", told)))
            self.assertEqual(run(f"rec(a: num(1), b: {text})"), within, text)


if __name__ == "__main__":
    unittest.main()
