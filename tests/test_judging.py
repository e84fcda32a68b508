import unittest

from castwright.errors import BadUse, NoKind
from castwright.kindnotes import kind_read
from castwright.kinds import parts_in
from castwright.known import knows_less
from castwright.serving import either, serves
from castwright.terms import judged
from samples import (ANY, NUM, TRUTH, box, boxes, forgotten_once, may, must, names, open_row, row, small_kinds, to,
                     wide)
from termsamples import (MOST, as_kind, call, choose, either_or, fun, get, less, name, new, news, num, plus, read, rec,
                         truth, wide_rec, write)

POOL = small_kinds()


def of_kind(text):
    """A term of a kind that is written: what it comes to is not asked here."""
    return as_kind(as_kind(num(), ANY), kind_read(text))


# terms, and the texts of the kinds as which they are judged
JUDGED = [
    (num(), "num"),
    (num(-MOST), "num"),
    (truth(True), "truth"),
    (truth(False), "truth"),
    (fun("x", NUM, name("x")), "(num > num)"),
    (fun("x", ANY, truth()), "(any > truth)"),
    (fun("x", NUM, fun("y", TRUTH, name("x"))), "(num > (truth > num))"),
    (fun("x", NUM, fun("y", TRUTH, name("y"))), "(num > (truth > truth))"),
    (fun("x", NUM, fun("x", TRUTH, name("x"))), "(num > (truth > truth))"),
    (fun("x", NUM, rec(("a", fun("x", TRUTH, name("x"))), ("b", name("x")))), "(num > {a: (truth > truth), b: num})"),
    (fun("x", NUM, call(fun("x", TRUTH, name("x")), truth())), "(num > truth)"),
    (fun("x", NUM, call(fun("x", NUM, truth()), name("x"))), "(num > truth)"),
    (call(fun("x", NUM, truth()), num()), "truth"),
    (call(fun("x", ANY, name("x")), num()), "any"),
    (call(fun("x", NUM, name("x")), of_kind("any")), "num"),
    (call(of_kind("any"), num()), "any"),
    (call(of_kind("any"), rec(("a", new(num())))), "any"),
    (call(of_kind("({a?: num} > [truth])"), rec(("a", num()))), "[truth]"),
    (call(of_kind("({a?: num} > [truth])"), rec()), "[truth]"),
    (rec(), "{}"),
    (rec(("a", num())), "{a: num}"),
    (rec(("a", num()), ("b", truth()), ("c", rec())), "{a: num, b: truth, c: {}}"),
    (rec(("a", of_kind("any"))), "{a: any}"),
    (get(rec(("a", num()), ("b", truth())), "a"), "num"),
    (get(rec(("a", num()), ("b", truth())), "b"), "truth"),
    (get(of_kind("{a: num, ..}"), "a"), "num"),
    (get(of_kind("{a: num, ..}"), "b"), "any"),
    (get(of_kind("{..}"), "a"), "any"),
    (get(of_kind("any"), "a"), "any"),
    (either_or(of_kind("{a: num}"), "a", num()), "num"),
    (either_or(of_kind("{a: num}"), "a", truth()), "any"),
    (either_or(of_kind("{a?: num}"), "a", num()), "num"),
    (either_or(of_kind("{a?: num}"), "a", truth()), "any"),
    (either_or(of_kind("{a?: {b: num}}"), "a", rec()), "{b?: num}"),
    (either_or(of_kind("{a: {b: num}, ..}"), "a", rec(("c", truth()))), "{b?: num, c?: truth}"),
    (either_or(of_kind("{}"), "a", truth()), "truth"),
    (either_or(of_kind("{b: num}"), "a", rec()), "{}"),
    (either_or(of_kind("{..}"), "a", num()), "any"),
    (either_or(of_kind("{b: num, ..}"), "a", num()), "any"),
    (either_or(of_kind("any"), "a", num()), "any"),
    (choose(truth(), num(), num()), "num"),
    (choose(truth(), num(), truth()), "any"),
    (choose(of_kind("any"), num(), num()), "num"),
    (choose(less(num(), num()), rec(("a", num())), rec()), "{a?: num}"),
    (choose(truth(), rec(), rec(("a", num()))), "{a?: num}"),
    (choose(truth(), fun("x", NUM, num()), fun("x", TRUTH, num())), "(any > num)"),
    (choose(truth(), new(num()), new(truth())), "[any]"),
    (choose(truth(), of_kind("{a: num, ..}"), rec()), "{a?: num, ..}"),
    (plus(num(), num()), "num"),
    (plus(of_kind("any"), of_kind("any")), "num"),
    (less(num(), num()), "truth"),
    (less(of_kind("any"), num()), "truth"),
    (new(num()), "[num]"),
    (new(new(rec())), "[[{}]]"),
    (new(of_kind("any")), "[any]"),
    (read(new(truth())), "truth"),
    (read(of_kind("[any]")), "any"),
    (read(of_kind("any")), "any"),
    (write(new(num()), num()), "num"),
    (write(new(num()), of_kind("any")), "num"),
    (write(of_kind("[any]"), truth()), "any"),
    (write(of_kind("[{a?: num}]"), rec()), "{a?: num}"),
    (write(of_kind("any"), truth()), "any"),
    (as_kind(num(), NUM), "num"),
    (as_kind(num(), ANY), "any"),
    (as_kind(rec(), row(may("a"))), "{a?: num}"),
    (as_kind(as_kind(num(), ANY), TRUTH), "truth"),
    (as_kind(fun("x", row(may("a")), num()), to(row(must("a")), ANY)), "({a: num} > any)"),
    (fun("f", to(NUM, TRUTH), call(name("f"), num())), "((num > truth) > truth)"),
    (fun("r", open_row(may("a")), either_or(name("r"), "a", num())), "({a?: num, ..} > num)"),
]

NO_NAME = name("nowhere")

# terms, and the path of the first place where they are not as they must be
BAD_USES = [
    (name("x"), ()),
    (fun("x", NUM, name("y")), (0,)),
    (fun("x", NUM, fun("y", NUM, name("z"))), (0, 0)),
    (rec(("a", fun("x", NUM, name("x"))), ("b", name("x"))), (1,)),
    (call(fun("x", NUM, name("x")), name("x")), (1,)),
    (call(num(), num()), (0,)),
    (call(truth(), num()), (0,)),
    (call(rec(), num()), (0,)),
    (call(new(num()), num()), (0,)),
    (call(fun("x", NUM, name("x")), truth()), (1,)),
    (call(fun("x", row(must("a")), num()), rec()), (1,)),
    (call(num(), NO_NAME), (0,)),
    (call(NO_NAME, NO_NAME), (0,)),
    (call(of_kind("any"), NO_NAME), (1,)),
    (call(fun("x", NUM, NO_NAME), truth()), (0, 0)),
    (rec(("a", num()), ("b", NO_NAME), ("c", NO_NAME)), (1,)),
    (rec(("a", call(num(), num())), ("b", NO_NAME)), (0, 0)),
    (get(num(), "a"), (0,)),
    (get(fun("x", NUM, num()), "a"), (0,)),
    (get(new(rec(("a", num()))), "a"), (0,)),
    (get(rec(), "a"), (0,)),
    (get(rec(("b", num())), "a"), (0,)),
    (get(of_kind("{a?: num}"), "a"), (0,)),
    (get(of_kind("{a?: num, ..}"), "a"), (0,)),
    (get(NO_NAME, "a"), (0,)),
    (either_or(num(), "a", num()), (0,)),
    (either_or(num(), "a", NO_NAME), (0,)),
    (either_or(new(num()), "a", num()), (0,)),
    (either_or(NO_NAME, "a", num()), (0,)),
    (either_or(rec(), "a", NO_NAME), (1,)),
    (either_or(rec(("a", num())), "a", NO_NAME), (1,)),
    (either_or(of_kind("{..}"), "a", NO_NAME), (1,)),
    (either_or(of_kind("any"), "a", NO_NAME), (1,)),
    (choose(num(), num(), num()), (0,)),
    (choose(num(), NO_NAME, num()), (0,)),
    (choose(rec(), num(), num()), (0,)),
    (choose(NO_NAME, NO_NAME, NO_NAME), (0,)),
    (choose(truth(), NO_NAME, NO_NAME), (1,)),
    (choose(truth(), num(), NO_NAME), (2,)),
    (plus(truth(), num()), (0,)),
    (plus(num(), truth()), (1,)),
    (plus(truth(), NO_NAME), (0,)),
    (plus(num(), NO_NAME), (1,)),
    (plus(rec(), rec()), (0,)),
    (less(truth(), num()), (0,)),
    (less(num(), truth()), (1,)),
    (less(new(num()), NO_NAME), (0,)),
    (new(NO_NAME), (0,)),
    (read(num()), (0,)),
    (read(rec()), (0,)),
    (read(NO_NAME), (0,)),
    (write(num(), num()), (0,)),
    (write(num(), NO_NAME), (0,)),
    (write(fun("x", NUM, num()), num()), (0,)),
    (write(new(num()), truth()), (1,)),
    (write(new(num()), NO_NAME), (1,)),
    (write(of_kind("any"), NO_NAME), (1,)),
    (write(of_kind("[{a: num}]"), rec()), (1,)),
    (as_kind(num(), TRUTH), (0,)),
    (as_kind(rec(), row(must("a"))), (0,)),
    (as_kind(rec(("a", num())), row()), (0,)),
    (as_kind(new(num()), box(TRUTH)), (0,)),
    (as_kind(new(rec()), box(row(may("a")))), (0,)),
    (as_kind(fun("x", row(must("a")), num()), to(row(may("a")), NUM)), (0,)),
    (as_kind(NO_NAME, ANY), (0,)),
    (plus(plus(num(), plus(num(), truth())), NO_NAME), (0, 1, 1)),
    (choose(truth(), rec(("a", num()), ("b", get(rec(), "c"))), num()), (1, 1, 0)),
    (either_or(rec(), "a", either_or(rec(), "b", fun("x", NUM, call(name("x"), num())))), (1, 1, 0, 0)),
    (plus(num(), call(fun("x", NUM, truth()), num())), (1,)),
]


class JudgedTest(unittest.TestCase):
    def test_the_kind_of_each_word(self):
        for term, text in JUDGED:
            self.assertEqual(judged(term), kind_read(text), term)

    def test_each_word_but_a_name_by_itself_is_there(self):
        words = "num truth fun call rec get or if plus less new read write as".split()
        self.assertEqual({term[0] for term, text in JUDGED}, set(words))

    def test_bad_uses(self):
        for term, path in BAD_USES:
            self.bad_use(term, path)

    def test_bad_uses_within_other_terms(self):
        for term, path in BAD_USES:
            self.bad_use(fun("w", NUM, term), (0,) + path)
            self.bad_use(rec(("a", num()), ("b", term)), (1,) + path)
            self.bad_use(choose(truth(), num(), term), (2,) + path)
            self.bad_use(either_or(rec(), "a", term), (1,) + path)
            self.bad_use(call(of_kind("any"), term), (1,) + path)
            self.bad_use(as_kind(new(term), ANY), (0, 0) + path)
            self.bad_use(plus(term, NO_NAME), (0,) + path)
            self.bad_use(call(term, NO_NAME), (0,) + path)
            self.bad_use(rec(("a", term), ("b", NO_NAME)), (0,) + path)
            self.bad_use(choose(term, NO_NAME, NO_NAME), (0,) + path)
            self.bad_use(write(term, NO_NAME), (0,) + path)

    def test_paths_are_tuples_of_whole_numbers(self):
        with self.assertRaises(BadUse) as taken:
            judged(plus(num(), truth()))
        self.assertEqual([type(step) for step in taken.exception.path], [int])
        self.assertIs(type(taken.exception.path), tuple)

    def test_a_name_has_its_kind_within_its_function_alone(self):
        self.bad_use(plus(call(fun("x", NUM, name("x")), num()), name("x")), (1,))
        self.bad_use(call(name("x"), fun("x", NUM, name("x"))), (0,))
        told_anew = fun("x", NUM, plus(call(fun("x", TRUTH, choose(name("x"), num(1), num(2))), truth()), name("x")))
        self.assertEqual(judged(told_anew), to(NUM, NUM))
        self.bad_use(fun("x", NUM, fun("x", TRUTH, plus(name("x"), num()))), (0, 0, 0))

    def test_each_field_of_a_row(self):
        for mark, wanted in (("must", NUM), ("may", None)):
            kind = ("row", (("a", mark, NUM),), False)
            term = fun("r", kind, get(name("r"), "a"))
            if wanted is None:
                self.bad_use(term, (0, 0))
            else:
                self.assertEqual(judged(term), to(kind, wanted))

    def test_a_part_that_must_serve_as_a_kind(self):
        for one in POOL:
            for other in POOL[::4]:
                held_ones = [
                    (fun("x", one, as_kind(name("x"), other)), other, (0, 0)),
                    (fun("x", one, call(fun("y", other, num()), name("x"))), NUM, (0, 1)),
                    (fun("x", one, fun("b", box(other), write(name("b"), name("x")))), to(box(other), other), (0, 0, 1)),
                ]
                for term, wanted, path in held_ones:
                    if serves(one, other):
                        self.assertEqual(judged(term), to(one, wanted), term)
                    else:
                        self.bad_use(term, path)

    def test_a_part_that_must_serve_as_num_or_truth(self):
        for kind in POOL:
            sure = (kind in (ANY, NUM), kind in (ANY, TRUTH))
            for make, good, path in (
                (lambda x: plus(x, num()), sure[0], (0, 0)), (lambda x: plus(num(), x), sure[0], (0, 1)),
                (lambda x: less(x, num()), sure[0], (0, 0)), (lambda x: less(num(), x), sure[0], (0, 1)),
                (lambda x: choose(x, num(), num()), sure[1], (0, 0)),
            ):
                term = fun("x", kind, make(name("x")))
                if good:
                    self.assertEqual(judged(term), to(kind, TRUTH if term[3][0] == "less" else NUM))
                else:
                    self.bad_use(term, path)

    def test_a_part_that_must_be_of_a_head(self):
        for kind in POOL:
            for make, head in (
                (lambda x: call(x, as_kind(num(), ANY)), "to"), (lambda x: get(x, "zz"), "open row"),
                (lambda x: either_or(x, "zz", num()), "row"), (lambda x: read(x), "box"),
                (lambda x: write(x, as_kind(num(), ANY)), "box"),
            ):
                term = fun("x", kind, make(name("x")))
                good = kind[0] in ("any", head) or (head == "open row" and kind[0] == "row" and kind[2])
                if good:
                    self.assertEqual(judged(term)[1], kind)
                else:
                    self.bad_use(term, (0, 0))

    def test_either_of_both_branches(self):
        for one in POOL:
            for other in POOL:
                term = fun("x", one, fun("y", other, choose(truth(), name("x"), name("y"))))
                self.assertEqual(judged(term), to(one, to(other, either(one, other))))
                kind = row(may("f", one))
                term = fun("x", kind, fun("y", other, either_or(name("x"), "f", name("y"))))
                self.assertEqual(judged(term), to(kind, to(other, either(one, other))))

    def test_terms_with_parts_of_their_kinds_forgotten(self):
        # the kinds that are judged then are no more known
        checked = 0
        for term, text in JUDGED:
            for other in with_kinds_forgotten(term):
                self.assertTrue(knows_less(judged(other), judged(term)), (term, other))
                checked += 1
        self.assertGreater(checked, 60)

    def bad_use(self, term, path):
        with self.subTest(term=term), self.assertRaises(BadUse) as taken:
            judged(term)
        self.assertEqual(taken.exception.path, path, term)


class BeyondTest(unittest.TestCase):
    def test_a_kind_of_more_than_forty_parts(self):
        kind = judged(rec(("a", as_kind(as_kind(num(), ANY), wide(30))), ("b", fun("x", wide(30), name("x")))))
        self.assertEqual(kind, row(must("a", wide(30)), must("b", to(wide(30), wide(30)))))
        with self.assertRaises(NoKind):
            parts_in(kind)

    def test_either_of_wide_rows(self):
        kinds = [row(*[must(told) for told in names(60)[:30]]), row(*[must(told) for told in names(60)[30:]])]
        term = fun("x", kinds[0], fun("y", kinds[1], choose(truth(), name("x"), name("y"))))
        wanted = row(*[may(told) for told in names(60)])
        self.assertEqual(judged(term), to(kinds[0], to(kinds[1], wanted)))
        term = fun("x", kinds[0], fun("y", kinds[1], get(choose(truth(), name("x"), name("y")), "zz")))
        with self.assertRaises(BadUse) as taken:
            judged(term)
        self.assertEqual(taken.exception.path, (0, 0, 0))

    def test_more_than_eight_within_one_another(self):
        self.assertEqual(judged(news(9)), boxes(9))
        self.assertEqual(judged(news(7, as_kind(as_kind(num(), ANY), boxes(7)))), boxes(14))
        with self.assertRaises(NoKind):
            parts_in(judged(news(9)))

    def test_such_kinds_are_held_against_what_is_wanted(self):
        deep = fun("x", boxes(7), new(new(name("x"))))
        self.assertEqual(judged(deep), to(boxes(7), boxes(9)))
        self.assertEqual(judged(as_kind(news(8), boxes(6, ANY))), boxes(6, ANY))
        with self.assertRaises(BadUse) as taken:
            judged(as_kind(news(8), boxes(7)))
        self.assertEqual(taken.exception.path, (0,))
        self.assertEqual(judged(read(write(new(new(news(5))), news(6)))), boxes(5))
        self.assertEqual(judged(call(fun("x", ANY, num()), wide_rec(36))), NUM)

    def test_at_the_bounds_of_terms(self):
        self.assertEqual(judged(wide_rec(39)), wide(39))
        self.assertEqual(judged(wide_rec(19, new(num()))), wide(19, box(NUM)))


def with_kinds_forgotten(term):
    """Terms that come of one by one step down in one of the kinds that it tells."""
    found = []
    for at, part in enumerate(term):
        if (term[0], at) in (("fun", 2), ("as", 2)):
            found += [term[:at] + (kind,) + term[at + 1:] for kind in forgotten_once(part) if kind != part]
        elif term[0] == "rec" and at == 1:
            for place, (told, inner) in enumerate(part):
                for other in with_kinds_forgotten(inner):
                    found.append(("rec", part[:place] + ((told, other),) + part[place + 1:]))
        elif isinstance(part, tuple):
            found += [term[:at] + (other,) + term[at + 1:] for other in with_kinds_forgotten(part)]
    return found


if __name__ == "__main__":
    unittest.main()
