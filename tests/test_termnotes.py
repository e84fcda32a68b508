import unittest

from castwright.errors import BadNote, NoTerm
from castwright.kindnotes import kind_read, kind_shown
from castwright.termnotes import term_read, term_shown
from castwright.terms import terms_in
from samples import EDGES, GOOD, names, small_kinds
from termsamples import (BAD_TERMS, BEYOND, GOOD_TERMS, TERM_EDGES, as_kind, fun, name, news, num, rec, term_held,
                         wide_rec)

SIGNS = [chr(code) for code in range(32, 127) if chr(code) != "%"]

BAD_TEXTS = [
    "", " ", "  ", "(", ")", "()", "5", "-5", "x", "yes", "no", "num", "num(", "num)", "num()", "num( )", "num5",
    "num 5", "num(5", "num5)", "(5)", "num (5)", "num( 5)", "num(5 )", " num(5)", "num(5) ", "num(5)\n", "\nnum(5)",
    "num(5))", "num((5))", "num(5)num(5)", "num(5), num(5)", "num(5, 5)", "num(5,)", "num[5]", "num{5}", "Num(5)",
    "NUM(5)", "nums(5)", "number(5)", "int(5)", "num(05)", "num(00)", "num(-0)", "num(-00)", "num(-05)", "num(+5)",
    "num(+0)", "num(--5)", "num(- 5)", "num(-)", "num(+)", "num(5-)", "num(5.0)", "num(.5)", "num(1e3)", "num(1_000)",
    "num(1,000)", "num(0x5)", "num(five)", "num(x)", "num(yes)", "num(True)", "num(\u0665)", "num(\u00b2)",
    "num(100000000000000000000)", "num(-100000000000000000000)", "num(000000000000000000005)",
    "num(" + "9" * 21 + ")", "num(" + "9" * 1900 + ")", "num(" + "9" * 5000 + ")", "num(num(5))",
    "truth", "truth()", "truth(True)", "truth(true)", "truth(Yes)", "truth(YES)", "truth(y)", "truth(n)", "truth(yesno)",
    "truth(1)", "truth(0)", "truth(yes, no)", "truth( yes)", "truth(yes )", "truth(not)", "truth(yess)",
    "yes(truth)", "no()",
    "name", "name()", "name( )", "name(X)", "name(x1)", "name(1)", "name(a b)", "name(a_b)", "name(abcdefghi)",
    "name(x, y)", "name(x", "name(x))", "name( x)", "name(x )", "name(name(x))", "name(\u00e9)", "name(x:)",
    "fun(x: num, num(5)", "fun(x: num)", "fun(x: num, )", "fun(x: num num(5))", "fun(x: num,num(5))",
    "fun(x: num,  num(5))", "fun(x:num, num(5))", "fun(x : num, num(5))", "fun(x:  num, num(5))", "fun(x, num, num(5))",
    "fun(x num, num(5))", "fun(: num, num(5))", "fun(x: , num(5))", "fun(x, num(5))", "fun(X: num, num(5))",
    "fun(abcdefghi: num, num(5))", "fun(x?: num, num(5))", "fun(x: nums, num(5))", "fun(x: num(5), num(5))",
    "fun(x: num, num)", "fun(x: num, num(5), num(5))", "fun(x: {b: num, a: num}, num(5))", "fun(x: [num, num(5))",
    "fun(x: num], num(5))", "fun(x: num > num, num(5))", "fun(x: (num > num, num(5))", "fun(x: {a: num,..}, num(5))",
    "fun(num(5), x: num)", "fun(x: num; num(5))", "fun()", "fun(x: [[[[[[[[num]]]]]]]], num(5))",
    "call()", "call(num(5))", "call(num(5), )", "call(, num(5))", "call(num(5),num(5))", "call(num(5) , num(5))",
    "call(num(5),  num(5))", "call( num(5), num(5))", "call(num(5), num(5) )", "call(num(5) num(5))",
    "call(num(5), num(5), num(5))", "call(num(5), 5)", "call(x, num(5))", "call (num(5), num(5))",
    "call(num(5), num(5)", "callnum(5), num(5))", "call(num(5); num(5))",
    "rec", "rec(", "rec( )", "rec(a)", "rec(a:)", "rec(a: )", "rec(: num(5))", "rec(num(5))", "rec(a num(5))",
    "rec(a:num(5))", "rec(a : num(5))", "rec(a:  num(5))", "rec( a: num(5))", "rec(a: num(5) )", "rec(a: num(5),)",
    "rec(a: num(5), )", "rec(, a: num(5))", "rec(,)", "rec(a: num(5) b: num(5))", "rec(a: num(5),b: num(5))",
    "rec(a: num(5), : num(5))", "rec(a: num(5), b)", "rec(a: num(5), b: )", "rec(a: num(5), num(5))",
    "rec(a: num(5), a: num(5))", "rec(b: num(5), a: num(5))", "rec(aa: num(5), a: num(5))", "rec(A: num(5))",
    "rec(a: num(5), b: num(5), a: num(5))", "rec(a1: num(5))", "rec(abcdefghi: num(5))", "rec(a?: num(5))",
    "rec(a: num(5), ..)", "rec(..)", "rec(a: num)", "rec(a: 5)", "rec{a: num(5)}", "rec((a: num(5)))",
    "get()", "get(rec())", "get(rec(), )", "get(rec(),a)", "get(rec(),  a)", "get(rec(), A)", "get(rec(), a1)",
    "get(rec(), abcdefghi)", "get(rec(), a: num(5))", "get(rec(), name(a))", "get(a, rec())", "get(rec(), a, b)",
    "get(rec(): a)", "get(rec() a)", "get(rec(), a", "get(x, a)",
    "or()", "or(rec())", "or(rec(), a)", "or(rec(), a, )", "or(rec(), , num(5))", "or(rec(), num(5))",
    "or(rec(), num(5), a)", "or(a, rec(), num(5))", "or(rec(), A, num(5))", "or(rec(), abcdefghi, num(5))",
    "or(rec(), a: num(5))", "or(rec(), a,num(5))", "or(rec(),a, num(5))", "or(rec(), a, num(5), num(5))",
    "or(rec(), a, b)",
    "if()", "if(truth(yes))", "if(truth(yes), num(1))", "if(truth(yes), num(1), )", "if(yes, num(1), num(2))",
    "if(truth(yes), num(1), num(2), num(3))", "if(truth(yes),num(1), num(2))", "if(truth(yes), num(1) num(2))",
    "if truth(yes), num(1), num(2)",
    "plus()", "plus(num(1))", "plus(num(1), num(2), num(3))", "plus(1, 2)", "plus(num(1),num(2))", "plus(num(1) num(2))",
    "plus(num(1)+num(2))", "num(1) + num(2)", "minus(num(1), num(2))",
    "less()", "less(num(1))", "less(num(1), num(2), num(3))", "less(num(1),num(2))", "less(num(1) < num(2))",
    "new()", "new", "new(5)", "new(num)", "new(num(5), num(5))", "new(new())", "new num(5)", "newnum(5))", "new(num(5)",
    "read()", "read(x)", "read(num(5), num(5))", "reads(num(5))", "red(num(5))",
    "write()", "write(num(1))", "write(num(1), )", "write(num(1),num(2))", "write(num(1), 2)",
    "write(num(1), num(2), num(3))",
    "as()", "as(num(5))", "as(num(5), )", "as(num(5), num(5))", "as(num, num(5))", "as(num(5),num)", "as(num(5): num)",
    "as(num(5),  num)", "as(num(5), num )", "as(num(5), num, num)", "as(num(5), x)", "as(num(5), {b: num, a: num})",
    "as(num(5), {a: num)", "as(num(5), [[[[[[[[num]]]]]]]])", "as(num(5), num", "as(num(5) num)",
    "any(num(5))", "box(num(5))", "to(num(5), num(5))", "row()", "any", "[num]", "{}", "value 5",
    "%", "num(5)%", "num(%)", "~", "num(5)\t", "call(num(5),\tnum(5))", "call(num(5),\u00a0num(5))",
]


class ShownTest(unittest.TestCase):
    def test_each_form(self):
        for term, text, count in GOOD_TERMS:
            self.assertEqual(term_shown(term), text)

    def test_each_kind_in_it(self):
        for kind, text, parts, known, data in GOOD:
            self.assertEqual(term_shown(as_kind(num(), kind)), "as(num(5), " + text + ")")
            self.assertEqual(term_shown(fun("x", kind, name("x"))), "fun(x: " + text + ", name(x))")

    def test_what_is_no_term(self):
        for thing in BAD_TERMS + BEYOND:
            with self.subTest(kind=str(thing)[:200]), self.assertRaises(NoTerm):
                term_shown(thing)


class ReadTest(unittest.TestCase):
    def test_each_form(self):
        for term, text, count in GOOD_TERMS:
            self.assertEqual(term_read(text), term, text)

    def test_truths_are_truths_and_numbers_are_numbers(self):
        self.assertIs(term_read("truth(yes)")[1], True)
        self.assertIs(term_read("truth(no)")[1], False)
        self.assertIs(type(term_read("num(1)")[1]), int)
        self.assertIs(type(term_read("num(0)")[1]), int)

    def test_written_and_read_again(self):
        terms = [term for term, text, count in GOOD_TERMS]
        terms += [other for term in terms for other in term_held(term)]
        terms += [term for term, count in TERM_EDGES]
        terms += [as_kind(fun("x", kind, num()), kind) for kind in small_kinds() + [kind for kind, parts in EDGES]]
        self.assertGreater(len(terms), 800)
        for term in terms:
            self.assertEqual(term_read(term_shown(term)), term)
            self.assertEqual(terms_in(term_read(term_shown(term))), terms_in(term))

    def test_kinds_are_read_as_in_stage_one(self):
        for kind in small_kinds():
            self.assertEqual(term_read("as(num(5), " + kind_shown(kind) + ")")[2], kind)
            self.assertEqual(term_read("fun(x: " + kind_shown(kind) + ", num(5))")[2], kind)

    def test_texts_at_the_bounds(self):
        self.assertEqual(term_read("new(" * 9 + "num(5)" + ")" * 9), news(9))
        self.assertEqual(term_shown(term_read("rec(a: " * 9 + "num(5)" + ")" * 9)), "rec(a: " * 9 + "num(5)" + ")" * 9)
        self.assertEqual(term_read("rec(" + ", ".join(told + ": num(5)" for told in names(39)) + ")"), wide_rec(39))
        self.assertEqual(term_read("num(" + "9" * 20 + ")"), num(10 ** 20 - 1))
        self.assertEqual(term_read("num(-" + "9" * 20 + ")"), num(1 - 10 ** 20))
        self.assertEqual(term_read("as(num(5), [[[[[[[num]]]]]]])")[2], kind_read("[[[[[[[num]]]]]]]"))

    def test_texts_beyond_the_bounds(self):
        self.refused("new(" * 10 + "num(5)" + ")" * 10)
        self.refused("new(" * 10 + "rec()" + ")" * 10)
        self.refused("rec(a: " * 10 + "num(5)" + ")" * 10)
        self.refused("rec(" + ", ".join(told + ": num(5)" for told in names(40)) + ")")
        self.refused("new(rec(" + ", ".join(told + ": num(5)" for told in names(39)) + "))")
        self.refused("as(num(5), {" + ", ".join(told + ": num" for told in names(40)) + "})")
        self.refused("as(num(5), " + "[" * 8 + "num" + "]" * 8 + ")")

    def test_a_long_text_is_not_refused_for_its_length(self):
        kind = kind_read("{" + ", ".join(told + "cdefgh?: truth" for told in names(39)) + "}")
        term = fun("x", kind, fun("y", kind, fun("z", kind, as_kind(rec(), kind))))
        text = term_shown(term)
        self.assertGreater(len(text), 2000)
        self.assertEqual(term_read(text), term)

    def test_many_brackets(self):
        for piece in ("new(", "call(", "rec(a: ", "if(", "as(", "fun(x: num, ", "fun(x: [", "("):
            self.refused(piece * 200)
        self.refused("new(" * 5000)
        self.refused("as(num(5), " + "[" * 5000)

    def test_texts_that_write_no_term(self):
        for text in BAD_TEXTS:
            self.refused(text)

    def test_one_sign_left_out_put_in_or_exchanged(self):
        refused = 0
        for term, text, count in GOOD_TERMS:
            for other in texts_nearby(text):
                refused += self.is_refused_or_shown(other)
        self.assertGreater(refused, 100000)

    def test_pieces_exchanged(self):
        pieces = ["num(5)", "rec()", "name(x)", "get(", "rec(a: ", "fun(x: num, ", "as(", ", num", ", a", ", ", ")", "num"]
        texts = [""]
        for _ in range(4):
            texts = sorted(set(texts + [text + piece for text in texts for piece in pieces]))
        taken = 0
        for text in texts:
            taken += not self.is_refused_or_shown(text)
        self.assertGreater(taken, 10)

    def refused(self, text):
        with self.subTest(text=text[:200]), self.assertRaises(BadNote):
            term_read(text)

    def is_refused_or_shown(self, text):
        """A text that is read is the very text as which its term is written."""
        try:
            term = term_read(text)
        except BadNote:
            return True
        self.assertEqual(term_shown(term), text)
        return False


def texts_nearby(text):
    for at in range(len(text) + 1):
        yield text[:at] + text[at + 1:]
        for sign in SIGNS:
            yield text[:at] + sign + text[at:]
            yield text[:at] + sign + text[at + 1:]


if __name__ == "__main__":
    unittest.main()
