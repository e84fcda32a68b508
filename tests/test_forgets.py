import unittest

from castwright.errors import NoTerm
from castwright.forgets import forgettings, forgotten, kinds_told, less_term
from castwright.kindnotes import kind_read, kind_shown
from castwright.kinds import parts_in
from castwright.known import knows_less
from castwright.termnotes import term_read, term_shown
from samples import (ANY, EDGES, GOOD, NUM, TRUTH, all_below, box, boxes, may, must, open_row, row, small_kinds, to,
                     wide)
from termmaker import made_terms
from termsamples import (BAD_TERMS, BEYOND, GOOD_TERMS, TERM_EDGES, as_kind, call, choose, either_or, fun, get, less,
                         name, new, news, num, plus, read, rec, term_held, truth, wide_rec, write)

# Texts of kinds, and what comes of each by forgetting one part, in order.
LESS_KINDS = [
    ("any", []),
    ("num", ["any"]),
    ("truth", ["any"]),
    ("(num > truth)", ["any", "(any > truth)", "(num > any)"]),
    ("(any > any)", ["any"]),
    ("(any > num)", ["any", "(any > any)"]),
    ("[num]", ["any", "[any]"]),
    ("[any]", ["any"]),
    ("{}", ["any", "{..}"]),
    ("{..}", ["any"]),
    ("{a: num}", ["any", "{a: num, ..}", "{a: any}"]),
    ("{a: num, ..}", ["any", "{a: any, ..}"]),
    ("{a?: num}", ["any", "{a?: num, ..}", "{a?: any}"]),
    ("{a: any, b?: truth}", ["any", "{a: any, b?: truth, ..}", "{a: any, b?: any}"]),
    ("{a: num, b?: truth}", ["any", "{a: num, b?: truth, ..}", "{a: any, b?: truth}", "{a: num, b?: any}"]),
    ("{a: num, b?: truth, ..}", ["any", "{a: any, b?: truth, ..}", "{a: num, b?: any, ..}"]),
    ("{a: {}, b: {..}}", ["any", "{a: {}, b: {..}, ..}", "{a: any, b: {..}}", "{a: {..}, b: {..}}", "{a: {}, b: any}"]),
    ("[[num]]", ["any", "[any]", "[[any]]"]),
    ("((num > truth) > [{}])",
     ["any", "(any > [{}])", "((any > truth) > [{}])", "((num > any) > [{}])", "((num > truth) > any)",
      "((num > truth) > [any])", "((num > truth) > [{..}])"]),
    ("{f: (num > {a?: [num]}), ..}",
     ["any", "{f: any, ..}", "{f: (any > {a?: [num]}), ..}", "{f: (num > any), ..}", "{f: (num > {a?: [num], ..}), ..}",
      "{f: (num > {a?: any}), ..}", "{f: (num > {a?: [any]}), ..}"]),
]

# Texts of terms, and what comes of each by forgetting one part of a kind, in order.
LESS_TERMS = [
    ("num(5)", []),
    ("name(x)", []),
    ("rec()", []),
    ("plus(num(1), num(2))", []),
    ("as(num(5), any)", []),
    ("as(num(5), num)", ["as(num(5), any)"]),
    ("fun(x: num, name(y))", ["fun(x: any, name(y))"]),
    # The term's own kind stands ahead of those of its parts, though the part of as stands ahead of its kind.
    ("as(as(num(5), num), truth)", ["as(as(num(5), num), any)", "as(as(num(5), any), truth)"]),
    ("fun(x: num, fun(y: truth, num(1)))", ["fun(x: any, fun(y: truth, num(1)))", "fun(x: num, fun(y: any, num(1)))"]),
    ("as(fun(x: num, num(1)), [num])",
     ["as(fun(x: num, num(1)), any)", "as(fun(x: num, num(1)), [any])", "as(fun(x: any, num(1)), [num])"]),
    ("call(as(num(1), num), as(num(2), num))", ["call(as(num(1), any), as(num(2), num))",
                                                "call(as(num(1), num), as(num(2), any))"]),
    ("rec(a: as(num(1), num), b: num(2), c: as(num(3), truth))",
     ["rec(a: as(num(1), any), b: num(2), c: as(num(3), truth))",
      "rec(a: as(num(1), num), b: num(2), c: as(num(3), any))"]),
    ("get(as(num(1), {}), a)", ["get(as(num(1), any), a)", "get(as(num(1), {..}), a)"]),
    ("or(as(num(1), num), a, as(num(2), num))",
     ["or(as(num(1), any), a, as(num(2), num))", "or(as(num(1), num), a, as(num(2), any))"]),
    ("if(as(num(1), num), as(num(2), num), as(num(3), num))",
     ["if(as(num(1), any), as(num(2), num), as(num(3), num))", "if(as(num(1), num), as(num(2), any), as(num(3), num))",
      "if(as(num(1), num), as(num(2), num), as(num(3), any))"]),
    ("less(as(num(1), num), as(num(2), num))",
     ["less(as(num(1), any), as(num(2), num))", "less(as(num(1), num), as(num(2), any))"]),
    ("write(new(as(num(1), num)), read(as(num(2), num)))",
     ["write(new(as(num(1), any)), read(as(num(2), num)))", "write(new(as(num(1), num)), read(as(num(2), any)))"]),
    ("fun(f: ({a: num} > [truth]), as(name(f), {b?: num, ..}))",
     ["fun(f: any, as(name(f), {b?: num, ..}))",
      "fun(f: (any > [truth]), as(name(f), {b?: num, ..}))",
      "fun(f: ({a: num, ..} > [truth]), as(name(f), {b?: num, ..}))",
      "fun(f: ({a: any} > [truth]), as(name(f), {b?: num, ..}))",
      "fun(f: ({a: num} > any), as(name(f), {b?: num, ..}))",
      "fun(f: ({a: num} > [any]), as(name(f), {b?: num, ..}))",
      "fun(f: ({a: num} > [truth]), as(name(f), any))",
      "fun(f: ({a: num} > [truth]), as(name(f), {b?: any, ..}))"]),
]

# Texts of terms with all told kinds forgotten, and how many kinds were told.
FORGOTTEN = [
    ("num(5)", "num(5)", 0),
    ("name(x)", "name(x)", 0),
    ("as(num(5), num)", "as(num(5), any)", 1),
    ("as(num(5), any)", "as(num(5), any)", 1),
    ("fun(x: (num > [truth]), name(x))", "fun(x: any, name(x))", 4),
    ("as(fun(x: {a: num, ..}, as(name(x), {})), (num > num))", "as(fun(x: any, as(name(x), any)), any)", 6),
    ("rec(a: as(num(1), num), b: fun(x: num, rec(c: as(num(1), [num]))))",
     "rec(a: as(num(1), any), b: fun(x: any, rec(c: as(num(1), any))))", 4),
    ("or(as(num(1), {..}), a, call(fun(x: any, num(1)), read(new(as(num(2), num)))))",
     "or(as(num(1), any), a, call(fun(x: any, num(1)), read(new(as(num(2), any)))))", 3),
    ("if(less(num(1), as(num(2), num)), write(num(1), num(2)), get(plus(num(1), num(2)), a))",
     "if(less(num(1), as(num(2), any)), write(num(1), num(2)), get(plus(num(1), num(2)), a))", 1),
]

# Terms of which neither is the other one with kinds no more known: something else than a told kind differs.
APART = [
    (num(1), num(2)),
    (num(0), truth(False)),
    (num(1), truth(True)),
    (truth(True), truth(False)),
    (name("x"), name("y")),
    (fun("x", NUM, num()), fun("y", NUM, num())),
    (fun("x", ANY, num()), fun("y", NUM, num())),
    (fun("x", NUM, num(1)), fun("x", NUM, num(2))),
    (fun("x", NUM, num()), as_kind(num(), NUM)),
    (call(num(1), num(2)), call(num(2), num(1))),
    (call(num(), num()), write(num(), num())),
    (plus(num(), num()), less(num(), num())),
    (new(num()), read(num())),
    (rec(), rec(("a", num()))),
    (rec(("a", num())), rec(("b", num()))),
    (rec(("a", num())), rec(("a", num(6)))),
    (rec(("a", num())), rec(("a", num()), ("b", num()))),
    (get(num(), "a"), get(num(), "b")),
    (either_or(num(), "a", num()), either_or(num(), "b", num())),
    (either_or(num(), "a", num()), either_or(num(), "a", num(6))),
    (choose(num(), num(), num()), choose(num(), num(), num(6))),
    (as_kind(num(1), NUM), as_kind(num(2), NUM)),
    (as_kind(num(1), ANY), as_kind(num(2), NUM)),
    (as_kind(num(), NUM), num()),
    (as_kind(as_kind(num(), NUM), NUM), as_kind(num(), NUM)),
    (as_kind(num(), NUM), as_kind(num(), TRUTH)),
    (as_kind(num(), box(NUM)), as_kind(num(), to(ANY, ANY))),
    (as_kind(num(), row(must("a"))), as_kind(num(), row(may("a")))),
    (call(as_kind(num(), ANY), as_kind(num(), NUM)), call(as_kind(num(), NUM), as_kind(num(), ANY))),
    (fun("x", ANY, as_kind(num(), NUM)), fun("x", NUM, as_kind(num(), ANY))),
]


def shown(terms):
    return [term_shown(term) for term in terms]


class ForgettingsTest(unittest.TestCase):
    def test_kinds(self):
        for text, wanted in LESS_KINDS:
            for make, place in ((lambda kind: as_kind(num(), kind), 2), (lambda kind: fun("x", kind, num()), 2)):
                found = forgettings(make(kind_read(text)))
                self.assertEqual([kind_shown(term[place]) for term in found], wanted, text)
                self.assertEqual(found, [make(kind_read(less)) for less in wanted], text)

    def test_terms(self):
        for text, wanted in LESS_TERMS:
            self.assertEqual(shown(forgettings(term_read(text))), wanted, text)

    def test_within_other_terms_and_at_each_place(self):
        kind = kind_read("{a: num, b?: (num > [truth])}")
        wanted = forgettings(as_kind(num(), kind))
        self.assertEqual(len(wanted), 7)
        for at, term in enumerate(term_held(as_kind(num(), kind))):
            inner = [term_held(less)[at] for less in wanted]
            found = forgettings(term)
            # Some of these terms tell a kind of their own, which stands ahead.
            self.assertEqual(found[len(found) - len(inner):], inner, term)
            self.assertLessEqual(len(found), len(inner) + 1)

    def test_a_list_of_tuples_with_truths(self):
        found = forgettings(as_kind(num(), row(must("a"))))
        self.assertIs(type(found), list)
        self.assertIs(found[1][2][2], True)
        self.assertEqual({type(term) for term in found}, {tuple})

    def test_how_many_come_of_a_kind(self):
        for kind in [kind for kind, text, count, known, data in GOOD] + [kind for kind, count in EDGES]:
            unknown, closed = counted(kind)
            found = forgettings(as_kind(num(), kind))
            self.assertEqual(len(found), parts_in(kind) - unknown + closed, kind)
            self.assertEqual(len(set(found)), len(found), kind)

    def test_each_comes_out_less_known_and_none_is_left_out(self):
        for kind in small_kinds():
            found = [term[2] for term in forgettings(as_kind(num(), kind))]
            for one in found:
                self.assertTrue(knows_less(one, kind) and one != kind, (one, kind))
            # By many steps of forgetting each kind is come to that tells the same names.
            seen = {kind}
            fresh = [kind]
            while fresh:
                for term in forgettings(as_kind(num(), fresh.pop())):
                    if term[2] not in seen:
                        seen.add(term[2])
                        fresh.append(term[2])
            self.assertEqual(seen, {one for one in all_below(kind) if tells_all_names(one, kind)}, kind)

    def test_terms_at_the_bounds(self):
        for term, count in TERM_EDGES:
            for less in forgettings(term):
                self.assertIs(less_term(less, term), True)
        self.assertEqual(len(forgettings(as_kind(num(), boxes(7)))), 8)
        self.assertEqual(len(forgettings(as_kind(num(), wide(39)))), 41)
        self.assertEqual(len(forgettings(wide_rec(19, as_kind(num(), NUM)))), 19)
        self.assertEqual(forgettings(news(9)), [])

    def test_the_list_is_the_askers_own(self):
        term = as_kind(as_kind(num(), NUM), row())
        found = forgettings(term)
        kept = list(found)
        self.assertIsNot(found, forgettings(term))
        found.clear()
        self.assertEqual(forgettings(term), kept)


def counted(kind):
    """How many unknown kinds and how many closed rows are in a kind, by its text."""
    text = kind_shown(kind).replace(", ", " ").replace("(", "( ").replace("[", "[ ").replace("]", " ]")
    words = text.replace(")", " )").replace("}", " }").replace("{", "{ ").split()
    return words.count("any"), words.count("{") - words.count("..")


def tells_all_names(one, kind):
    """Whether a kind that is no more known than another one leaves out no name of its rows that are told in it."""
    if one == ANY:
        return True
    if one[0] != "row":
        return all(tells_all_names(left, right) for left, right in zip(one[1:], kind[1:]))
    told = {name: inner for name, mark, inner in kind[1]}
    return [field[0] for field in one[1]] == list(told) and all(
        tells_all_names(inner, told[name]) for name, mark, inner in one[1])


class ForgottenTest(unittest.TestCase):
    def test_all_kinds_unknown(self):
        for text, wanted, count in FORGOTTEN:
            self.assertEqual(term_shown(forgotten(term_read(text))), wanted, text)
            self.assertEqual(forgotten(term_read(text)), term_read(wanted), text)
            self.assertEqual(forgotten(term_read(wanted)), term_read(wanted), text)

    def test_how_many_kinds_are_told(self):
        for text, wanted, count in FORGOTTEN:
            self.assertEqual(kinds_told(term_read(text)), count, text)
        self.assertEqual(kinds_told(fun("x", wide(39), fun("y", boxes(7), news(7)))), 48)
        self.assertEqual(kinds_told(wide_rec(19, as_kind(num(), wide(39)))), 19 * 40)

    def test_nothing_is_left_to_forget(self):
        for term, text, count in GOOD_TERMS:
            bare = forgotten(term)
            self.assertEqual(forgettings(bare), [], text)
            self.assertIs(less_term(bare, term), True, text)
            self.assertLessEqual(kinds_told(bare), kinds_told(term), text)

    def test_by_forgetting_part_after_part(self):
        for term in made_terms(100, 4):
            less = term
            steps = 0
            while forgettings(less):
                less = forgettings(less)[-1]
                steps += 1
            self.assertEqual(less, forgotten(term))
            self.assertLessEqual(steps, 2 * kinds_told(term))


class LessTermTest(unittest.TestCase):
    def test_by_the_kinds_that_are_told(self):
        pool = small_kinds()[::3]
        for one in pool:
            for other in pool:
                wanted = knows_less(one, other)
                self.assertIs(less_term(as_kind(num(), one), as_kind(num(), other)), wanted, (one, other))
                self.assertIs(less_term(fun("x", one, num()), fun("x", other, num())), wanted, (one, other))

    def test_several_kinds(self):
        one = fun("x", open_row(), as_kind(name("x"), ANY))
        other = fun("x", row(must("a")), as_kind(name("x"), NUM))
        self.assertIs(less_term(one, other), True)
        self.assertIs(less_term(other, one), False)
        self.assertIs(less_term(one, one), True)

    def test_within_other_terms(self):
        known = as_kind(num(), row(must("a")))
        for less in (as_kind(num(), open_row()), as_kind(num(), ANY), as_kind(num(), row(must("a", ANY)))):
            for one, other in zip(term_held(less), term_held(known)):
                self.assertIs(less_term(one, other), True, (one, other))
                self.assertIs(less_term(other, one), False, (one, other))

    def test_each_good_term_and_itself(self):
        for term, text, count in GOOD_TERMS:
            self.assertIs(less_term(term, term), True, text)
        terms = [term for term, text, count in GOOD_TERMS]
        for at, one in enumerate(terms):
            for other in terms[at + 1:]:
                self.assertIs(less_term(one, other) or less_term(other, one), False, (one, other))

    def test_terms_apart(self):
        for one, other in APART:
            self.assertIs(less_term(one, other), False, (one, other))
            self.assertIs(less_term(other, one), False, (one, other))
            for left, right in zip(term_held(one), term_held(other)):
                self.assertIs(less_term(left, right), False, (left, right))

    def test_forgettings_are_less_and_not_the_other_way_about(self):
        for term in made_terms(150, 5):
            for less in forgettings(term):
                self.assertIs(less_term(less, term), True, (less, term))
                self.assertIs(less_term(term, less), False, (less, term))


class RefusalTest(unittest.TestCase):
    def test_what_is_no_term(self):
        for thing in BAD_TERMS + BEYOND:
            for ask in (forgettings, forgotten, kinds_told):
                with self.assertRaises(NoTerm, msg=thing):
                    ask(thing)
            for pair in ((thing, num()), (num(), thing), (thing, thing)):
                with self.assertRaises(NoTerm, msg=pair):
                    less_term(*pair)

    def test_terms_need_not_be_judged(self):
        term = call(num(), as_kind(name("nowhere"), NUM))
        self.assertEqual(forgettings(term), [call(num(), as_kind(name("nowhere"), ANY))])
        self.assertEqual(forgotten(term), call(num(), as_kind(name("nowhere"), ANY)))
        self.assertIs(less_term(forgotten(term), term), True)
        self.assertEqual(kinds_told(term), 1)
        bad = read(write(new(num()), truth()))
        self.assertEqual((forgettings(bad), forgotten(bad), kinds_told(bad)), ([], bad, 0))


if __name__ == "__main__":
    unittest.main()
