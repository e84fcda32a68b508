import unittest

from castwright.errors import BadUse, NoNumber, NoTerm
from castwright.runs import outcome
from castwright.termnotes import term_read
from termsamples import BAD_TERMS, BEYOND, FORM_WORDS, MOST, news, num, plus, wide_rec

LOOP = "call(fun(x: any, call(name(x), name(x))), fun(x: any, call(name(x), name(x))))"
KNOT = ("call(fun(b: [any], call(fun(i: any, call(read(name(b)), num(0))),"
        " write(name(b), fun(n: any, call(read(name(b)), plus(name(n), num(1))))))), new(as(num(0), any)))")


def run(text, fuel=120):
    return outcome(term_read(text), fuel)


def let(name, kind, first, then):
    """A text of a term in which a name stands for what the first one comes to."""
    return f"call(fun({name}: {kind}, {then}), {first})"


def first_of(one, other):
    """A text of a term that reckons the one ahead of the other, and comes to the other."""
    return f"get(rec(a: {one}, b: {other}), b)"


# texts of terms, what they tell, and how much fuel they use
VALUES = [
    ("num(5)", 5, 1),
    ("num(-5)", -5, 1),
    ("num(0)", 0, 1),
    ("truth(yes)", True, 1),
    ("truth(no)", False, 1),
    ("fun(x: num, name(x))", ("fun",), 1),
    ("fun(x: any, call(name(x), num(1)))", ("fun",), 1),
    ("call(fun(x: num, name(x)), num(7))", 7, 4),
    ("call(fun(x: num, num(1)), num(7))", 1, 4),
    ("call(fun(x: any, name(x)), truth(no))", False, 4),
    ("call(fun(x: num, fun(y: num, name(x))), num(7))", ("fun",), 4),
    ("call(call(fun(x: num, fun(y: num, name(x))), num(7)), num(8))", 7, 7),
    ("call(call(fun(x: num, fun(y: num, name(y))), num(7)), num(8))", 8, 7),
    ("call(call(fun(x: num, fun(x: num, name(x))), num(7)), num(8))", 8, 7),
    ("rec()", (), 1),
    ("rec(a: num(1))", (("a", 1),), 2),
    ("rec(a: num(1), b: truth(no), c: rec())", (("a", 1), ("b", False), ("c", ())), 4),
    ("rec(a: rec(a: num(1), b: rec(z: num(2))), b: fun(x: num, name(x)), c: new(num(1)))",
     (("a", (("a", 1), ("b", (("z", 2),)))), ("b", ("fun",)), ("c", ("box",))), 8),
    ("rec(fun: truth(yes))", (("fun", True),), 2),
    ("get(rec(a: num(1), b: num(2)), a)", 1, 4),
    ("get(rec(a: num(1), b: num(2)), b)", 2, 4),
    ("get(get(rec(a: rec(a: num(3))), a), a)", 3, 5),
    ("or(rec(a: num(1)), a, num(2))", 1, 3),
    ("or(rec(b: num(1)), a, num(2))", 2, 4),
    ("or(rec(), a, truth(yes))", True, 3),
    ("or(rec(a: num(1)), a, truth(yes))", 1, 3),
    ("or(as(rec(a: num(1)), {a?: num}), a, num(2))", 1, 4),
    ("or(as(rec(), {a?: num}), a, num(2))", 2, 4),
    ("or(as(rec(a: num(1)), {..}), a, num(2))", 1, 4),
    ("or(as(rec(), any), a, num(2))", 2, 4),
    ("if(truth(yes), num(1), num(2))", 1, 3),
    ("if(truth(no), num(1), num(2))", 2, 3),
    ("if(less(num(1), num(2)), num(1), truth(no))", 1, 5),
    ("if(less(num(2), num(1)), num(1), truth(no))", False, 5),
    ("if(as(truth(no), any), rec(), new(num(1)))", ("box",), 5),
    ("plus(num(1), num(2))", 3, 3),
    ("plus(num(-1), num(-2))", -3, 3),
    ("plus(as(num(1), any), as(num(2), any))", 3, 5),
    ("plus(num(99999999999999999999), num(1))", 10 ** 20, 3),
    ("less(num(1), num(2))", True, 3),
    ("less(num(2), num(2))", False, 3),
    ("less(num(3), num(2))", False, 3),
    ("less(num(-3), num(-2))", True, 3),
    ("new(num(1))", ("box",), 2),
    ("new(new(rec()))", ("box",), 3),
    ("read(new(num(1)))", 1, 3),
    ("read(read(new(new(truth(yes)))))", True, 5),
    ("read(as(new(num(1)), any))", 1, 4),
    ("write(new(num(1)), num(2))", 2, 4),
    ("write(new(rec(a: num(1))), rec(a: num(2)))", (("a", 2),), 6),
    ("as(num(1), num)", 1, 2),
    ("as(num(1), any)", 1, 2),
    ("as(as(num(1), any), num)", 1, 3),
    ("as(rec(a: num(1)), {a: num, b?: truth})", (("a", 1),), 3),
    ("as(fun(x: any, name(x)), (num > num))", ("fun",), 2),
    ("as(new(num(1)), [any])", ("box",), 3),
    ("as(new(num(1)), any)", ("box",), 3),
]

# Names: what stands for what, by texts of terms.
NAMES = [
    # A function keeps the names in force where its term stands, not those where it is called.
    (let("x", "num", "num(1)", let("f", "(num > num)", "fun(y: num, plus(name(x), name(y)))",
                                   let("x", "num", "num(100)", "call(name(f), num(10))"))), 11),
    # It is called later and twice, each time with an argument of its own.
    (let("f", "(num > num)", "fun(y: num, plus(name(y), name(y)))",
         "plus(call(name(f), num(1)), call(name(f), num(10)))"), 22),
    (let("f", "(num > (num > num))", "fun(x: num, fun(y: num, plus(name(x), name(y))))",
         let("g", "(num > num)", "call(name(f), num(1))",
             let("h", "(num > num)", "call(name(f), num(50))", "plus(call(name(g), num(4)), call(name(h), num(5)))"))),
     60),
    # A name told anew within, and the older one again behind it.
    (let("x", "num", "num(1)", "rec(a: " + let("x", "truth", "truth(no)", "name(x)") + ", b: name(x))"),
     (("a", False), ("b", 1))),
    (let("x", "num", "num(1)", "plus(" + let("x", "num", "plus(name(x), num(10))", "name(x)") + ", name(x))"), 12),
    (let("x", "num", "num(1)", "call(fun(x: num, plus(name(x), num(1))), plus(name(x), name(x)))"), 3),
    # Functions in rows and in boxes.
    (let("r", "{f: (num > num)}", "rec(f: fun(x: num, plus(name(x), num(1))))", "call(get(name(r), f), num(4))"), 5),
    (let("b", "[(num > num)]", "new(fun(x: num, plus(name(x), num(1))))", "call(read(name(b)), num(4))"), 5),
    # Functions that are handed functions.
    ("call(fun(f: (num > num), call(name(f), call(name(f), num(1)))), fun(x: num, plus(name(x), name(x))))", 4),
    ("call(call(fun(f: (num > num), fun(x: num, call(name(f), name(x)))), fun(y: num, plus(name(y), num(2)))), num(3))",
     5),
]

# Boxes: what is in them from when on.
BOXES = [
    (let("b", "[num]", "new(num(1))", first_of("write(name(b), num(2))", "read(name(b))")), 2),
    (let("b", "[num]", "new(num(1))", "rec(a: read(name(b)), b: write(name(b), num(2)), c: read(name(b)))"),
     (("a", 1), ("b", 2), ("c", 2))),
    (let("b", "[num]", "new(num(1))",
         "rec(a: write(name(b), plus(read(name(b)), num(1))), b: write(name(b), plus(read(name(b)), num(1))))"),
     (("a", 2), ("b", 3))),
    # One box by two names, and two boxes.
    (let("b", "[num]", "new(num(1))", let("c", "[num]", "name(b)",
                                          first_of("write(name(c), num(2))", "read(name(b))"))), 2),
    (let("b", "[num]", "new(num(1))", let("c", "[num]", "new(num(1))",
                                          first_of("write(name(c), num(2))", "read(name(b))"))), 1),
    # A box anew each time that its term is reckoned.
    (let("f", "(num > [num])", "fun(x: num, new(name(x)))",
         let("b", "[num]", "call(name(f), num(1))",
             let("c", "[num]", "call(name(f), num(1))", first_of("write(name(c), num(2))", "read(name(b))")))), 1),
    # A box that a function keeps.
    (let("f", "(num > num)", let("b", "[num]", "new(num(0))",
                                 "fun(x: num, write(name(b), plus(read(name(b)), name(x))))"),
         "rec(a: call(name(f), num(1)), b: call(name(f), num(10)), c: call(name(f), num(100)))"),
     (("a", 1), ("b", 11), ("c", 111))),
    # What was read stays when the box changes.
    (let("b", "[{a: num}]", "new(rec(a: num(1)))",
         let("r", "{a: num}", "read(name(b))", first_of("write(name(b), rec(a: num(2)))", "get(name(r), a)"))), 1),
    # The box stands ahead of what is written, and that is reckoned ahead of the writing.
    (let("b", "[num]", "new(num(1))", "write(name(b), plus(read(name(b)), write(name(b), num(5))))"), 6),
    (let("b", "[num]", "new(num(1))", "write(name(b), plus(write(name(b), num(5)), read(name(b))))"), 10),
]

BAD = "as(as(truth(no), any), num)"

# The order in which parts are reckoned and cast: two are to blame, the first one is told.
ORDER = [
    (f"plus({BAD}, {BAD})", (0, 0)),
    (f"plus(as(truth(no), any), {BAD})", (0,)),
    (f"plus(num(1), {BAD})", (1, 0)),
    (f"less({BAD}, {BAD})", (0, 0)),
    (f"less(as(truth(no), any), {BAD})", (0,)),
    ("less(num(1), as(truth(no), any))", (1,)),
    ("plus(num(1), as(truth(no), any))", (1,)),
    (f"rec(a: {BAD}, b: {BAD})", (0, 0)),
    (f"rec(a: num(1), b: {BAD}, c: {BAD})", (1, 0)),
    (f"call(as(num(1), any), {BAD})", (0,)),
    (f"call({BAD}, {BAD})", None),
    (f"call(fun(x: num, {BAD}), {BAD})", (1, 0)),
    (f"call(fun(x: num, {BAD}), as(truth(no), any))", (1,)),
    (f"call(fun(x: num, {BAD}), num(1))", (0, 0, 0)),
    (f"get(get(rec(a: {BAD}), a), b)", None),
    (f"get(as({BAD}, any), b)", (0, 0, 0)),
    (f"or(as(num(1), any), a, {BAD})", (0,)),
    (f"or(as(rec(), any), a, {BAD})", (1, 0)),
    (f"if(as(num(1), any), {BAD}, {BAD})", (0,)),
    (f"if(truth(yes), {BAD}, num(2))", (1, 0)),
    (f"if(truth(no), num(1), {BAD})", (2, 0)),
    (f"write(as(num(1), any), {BAD})", (0,)),
    (f"write(new(num(1)), {BAD})", (1, 0)),
    (f"write(new({BAD}), {BAD})", (0, 0, 0)),
    (f"as(as({BAD}, any), truth)", (0, 0, 0)),
    (f"new({BAD})", (0, 0)),
    (f"read(new({BAD}))", (0, 0, 0)),
]

# What isn't reckoned can't be to blame and uses no fuel.
NOT_RECKONED = [
    (f"if(truth(yes), num(1), {BAD})", 1, 3),
    (f"if(truth(no), {BAD}, num(2))", 2, 3),
    (f"or(rec(a: num(1)), a, {BAD})", 1, 3),
    (f"fun(x: num, {BAD})", ("fun",), 1),
    (f"if(truth(no), {LOOP}, num(2))", 2, 3),
    (f"or(rec(a: num(1)), a, {LOOP})", 1, 3),
    (f"fun(x: num, {LOOP})", ("fun",), 1),
]

# texts of terms that are to blame, where, and the fuel at which that is so
BLAMED_AT = [
    ("call(as(num(1), any), num(2))", (0,), 3),
    ("get(as(num(1), any), a)", (0,), 3),
    ("get(as(rec(), any), a)", (0,), 3),
    ("or(as(num(1), any), a, num(2))", (0,), 3),
    ("read(as(num(1), any))", (0,), 3),
    ("write(as(num(1), any), num(2))", (0,), 3),
    ("if(as(num(1), any), num(2), num(3))", (0,), 3),
    ("plus(as(truth(no), any), num(3))", (0,), 3),
    ("plus(num(3), as(truth(no), any))", (1,), 4),
    ("as(as(num(1), any), truth)", (0,), 3),
    ("call(fun(x: num, name(x)), as(truth(no), any))", (1,), 4),
]


class ValuesTest(unittest.TestCase):
    def test_each_word(self):
        for text, told, used in VALUES + NOT_RECKONED:
            self.assertEqual(run(text), ("value", told), text)
            self.assertIs(type(run(text)[1]), type(told), text)

    def test_each_word_is_there(self):
        text = " ".join([text for text, told, used in VALUES])
        for word in FORM_WORDS:
            self.assertIn(word + "(", text)

    def test_names(self):
        for text, told in NAMES:
            self.assertEqual(run(text), ("value", told), text)

    def test_boxes(self):
        for text, told in BOXES:
            self.assertEqual(run(text), ("value", told), text)

    def test_truths_within_rows_are_truths(self):
        told = run("rec(a: truth(yes), b: num(1), c: less(num(1), num(0)), d: num(0))")[1]
        self.assertEqual([type(inner) for name, inner in told], [bool, int, bool, int])

    def test_rows_are_told_by_rising_names(self):
        # A row that was cast as of an open kind may have come by its fields in another order.
        text = "as(as(rec(a: num(1), b: num(2), c: num(3)), {b: num, ..}), {c: any, ..})"
        self.assertEqual(run(text), ("value", (("a", 1), ("b", 2), ("c", 3))))

    def test_at_the_bounds_of_terms(self):
        self.assertEqual(outcome(wide_rec(39), 40), ("value", tuple([(name, 5) for name, part in wide_rec(39)[1]])))
        self.assertEqual(outcome(wide_rec(39), 39), ("spent",))
        self.assertEqual(outcome(news(9), 10), ("value", ("box",)))
        self.assertEqual(outcome(plus(num(MOST), num(MOST)), 3), ("value", 2 * MOST))
        self.assertEqual(outcome(plus(num(-MOST), num(-MOST)), 3), ("value", -2 * MOST))

    def test_numbers_beyond_twenty_figures(self):
        twice = "fun(f: (num > num), fun(x: num, call(name(f), call(name(f), name(x)))))"
        text = let("t", "((num > num) > (num > num))", twice,
                   "call(call(name(t), call(name(t), fun(x: num, plus(name(x), name(x))))), num(99999999999999999999))")
        self.assertEqual(run(text), ("value", 16 * MOST))

    def test_rows_that_hold_one_row_many_times(self):
        double = "fun(x: any, rec(a: name(x), b: name(x), c: name(x)))"
        text = let("d", "(any > any)", double, let("f", "any",
                   "fun(f: any, fun(x: any, call(call(name(f), name(f)), call(name(d), name(x)))))",
                   "call(call(name(f), name(f)), num(1))"))
        self.assertEqual(run(text), ("spent",))
        told = run(let("d", "(any > any)", double, "call(name(d), " * 6 + "num(1)" + ")" * 6))[1]
        for _ in range(6):
            self.assertEqual([name for name, inner in told], ["a", "b", "c"])
            told = told[2][1]
        self.assertEqual(told, 1)


class FuelTest(unittest.TestCase):
    def test_just_spent_and_just_not(self):
        for text, told, used in VALUES + NOT_RECKONED:
            for fuel in range(used):
                self.assertEqual(run(text, fuel), ("spent",), (text, fuel))
            for fuel in (used, used + 1, used + 2, 119, 120):
                self.assertEqual(run(text, fuel), ("value", told), (text, fuel))

    def test_to_blame_just_where_the_fuel_lasts_so_far(self):
        for text, path, used in BLAMED_AT:
            for fuel in range(used):
                self.assertEqual(run(text, fuel), ("spent",), (text, fuel))
            for fuel in (used, used + 1, 120):
                self.assertEqual(run(text, fuel), ("blame", path, "out"), (text, fuel))

    def test_runs_without_end(self):
        for text in (LOOP, KNOT, f"plus({LOOP}, {BAD})", f"rec(a: num(1), b: {LOOP})", f"new({LOOP})"):
            for fuel in (0, 1, 2, 50, 119, 120):
                self.assertEqual(run(text, fuel), ("spent",), (text, fuel))

    def test_runs_without_end_deep_within_one_another(self):
        for around in ("get({}, a)", "or({}, a, num(1))", "read({})", "as({}, any)", "plus({}, num(1))", "rec(a: {})",
                       "call(fun(y: any, name(y)), {})", "write(new(as(num(1), any)), {})", "new({})",
                       "if(truth(yes), {}, num(1))", "if({}, truth(no), truth(no))", "plus(num(1), {})"):
            body = "call(name(x), name(x))"
            while True:
                more = around.replace("{}", body)
                text = f"call(fun(x: any, {more}), fun(x: any, {more}))"
                if len(more) > 300 or more.count("(") > 18 or depth_of(text) > 10:
                    break
                body = more
            text = f"call(fun(x: any, {body}), fun(x: any, {body}))"
            self.assertEqual(run(text), ("spent",), text)

    def test_a_body_uses_fuel_each_time_anew(self):
        text = let("f", "(num > num)", "fun(x: num, plus(name(x), num(1)))",
                   "call(name(f), call(name(f), call(name(f), num(0))))")
        used = 3 + 3 * 2 + 1 + 3 * 3
        self.assertEqual(run(text, used), ("value", 3))
        self.assertEqual(run(text, used - 1), ("spent",))

    def test_covers_use_no_fuel(self):
        text = "call(as(as(as(fun(x: num, name(x)), (any > num)), (any > any)), (num > any)), num(1))"
        self.assertEqual(run(text, 7), ("value", 1))
        self.assertEqual(run(text, 6), ("spent",))
        text = "read(as(as(new(num(1)), [any]), [num]))"
        self.assertEqual(run(text, 5), ("value", 1))
        self.assertEqual(run(text, 4), ("spent",))


def depth_of(text):
    depth = deepest = 0
    for sign in text:
        depth += (sign == "(") - (sign == ")")
        deepest = max(deepest, depth)
    return deepest


class OrderTest(unittest.TestCase):
    def test_the_first_that_is_to_blame(self):
        for text, path in ORDER:
            if path is not None:
                self.assertEqual(run(text), ("blame", path, "out"), text)

    def test_those_that_are_not_judged(self):
        for text, path in ORDER:
            if path is None:
                with self.assertRaises(BadUse, msg=text):
                    run(text)

    def test_spent_ahead_of_a_later_blame_and_behind_an_earlier_one(self):
        self.assertEqual(run(f"rec(a: {LOOP}, b: {BAD})"), ("spent",))
        self.assertEqual(run(f"rec(a: {BAD}, b: {LOOP})"), ("blame", (0, 0), "out"))
        self.assertEqual(run(f"call(as(num(1), any), {LOOP})"), ("blame", (0,), "out"))
        self.assertEqual(run(f"write(as(num(1), any), {LOOP})"), ("blame", (0,), "out"))
        self.assertEqual(run(f"or(as(num(1), any), a, {LOOP})"), ("blame", (0,), "out"))
        self.assertEqual(run(f"call(fun(x: num, {LOOP}), as(rec(), any))"), ("blame", (1,), "out"))

    def test_a_box_changes_in_the_order_of_the_parts(self):
        step = "write(name(b), plus(read(name(b)), num(1)))"
        bump = "call(name(f), num(0))"
        for text, told in ((f"less({bump}, {bump})", True),
                           (f"rec(a: {bump}, b: {bump}, c: {bump})", (("a", 1), ("b", 2), ("c", 3))),
                           (f"if(less({bump}, num(2)), {bump}, num(0))", 2),
                           (f"or(rec(a: {bump}), b, {bump})", 2),
                           (f"call(fun(x: num, rec(a: name(x), b: {bump})), {bump})", (("a", 1), ("b", 2))),
                           (f"call(get(rec(a: fun(x: num, name(x)), b: {bump}), a), {bump})", 2),
                           (f"write(get(rec(a: new(num(0)), b: {bump}), a), {bump})", 2)):
            whole = let("b", "[num]", "new(num(0))", let("f", "(num > num)", f"fun(u: num, {step})", text))
            self.assertEqual(run(whole), ("value", told), text)


class RefusalTest(unittest.TestCase):
    def test_what_is_no_term(self):
        for thing in BAD_TERMS + BEYOND:
            for fuel in (0, 5, 120, -1, 121):
                with self.assertRaises(NoTerm, msg=thing):
                    outcome(thing, fuel)

    def test_a_bad_use_ahead_of_the_fuel(self):
        for text, path in (("name(x)", ()), ("plus(num(1), truth(no))", (1,)), ("call(num(1), num(1))", (0,)),
                           ("if(truth(yes), num(1), get(rec(), a))", (2, 0)), ("fun(x: num, name(y))", (0,))):
            for fuel in (0, 1, 120, -1, 121, 10 ** 30):
                with self.assertRaises(BadUse, msg=text) as caught:
                    run(text, fuel)
                self.assertEqual(caught.exception.path, path, text)

    def test_the_fuel(self):
        for fuel in (-1, -2, -100, 121, 122, 1000, 10 ** 30, -10 ** 30):
            for text in ("num(1)", LOOP, BAD):
                with self.assertRaises(NoNumber, msg=fuel):
                    run(text, fuel)
        self.assertEqual(run("num(1)", 0), ("spent",))
        self.assertEqual(run("num(1)", 1), ("value", 1))
        self.assertEqual(run("num(1)", 120), ("value", 1))
        self.assertEqual(run(LOOP, 120), ("spent",))


if __name__ == "__main__":
    unittest.main()
