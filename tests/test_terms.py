import re
import reprlib
import unittest

from castwright.errors import BadUse, NoKind, NoTerm
from castwright.kinds import parts_in
from castwright.termnotes import term_shown
from castwright.terms import judged, terms_in
from samples import NUM, boxes, changed, row, wide
from termsamples import (BAD_TERMS, BEYOND, GOOD_TERMS, MOST, TERM_EDGES, as_kind, call, fun, get, name, new, news,
                         num, rec, term_held, truth, wide_rec)

# for each word what stands behind it: n a number, b a truth, x a name, k a kind, t a term, f fields
SHAPES = {
    "num": "n", "truth": "b", "name": "x", "fun": "xkt", "call": "tt", "rec": "f", "get": "tx", "or": "txt",
    "if": "ttt", "plus": "tt", "less": "tt", "new": "t", "read": "t", "write": "tt", "as": "tk",
}


def is_kind_by_stage_one(thing):
    try:
        parts_in(thing)
    except (NoKind, TypeError):
        return False
    return True


def is_name_told(thing):
    return type(thing) is str and re.fullmatch("[a-z]{1,8}", thing) is not None


def parts_told(thing):
    """The things straight within one of a term's form, or None where it has another form."""
    if type(thing) is not tuple or not thing or type(thing[0]) is not str or thing[0] not in SHAPES:
        return None
    shape = SHAPES[thing[0]]
    if len(thing) != len(shape) + 1:
        return None
    found = []
    for sort, part in zip(shape, thing[1:]):
        if sort == "t":
            found.append(part)
        elif sort == "n" and not (type(part) is int and len(str(abs(part))) <= 20):
            return None
        elif sort == "b" and type(part) is not bool:
            return None
        elif sort == "x" and not is_name_told(part):
            return None
        elif sort == "k" and not is_kind_by_stage_one(part):
            return None
        elif sort == "f":
            if type(part) is not tuple:
                return None
            for field in part:
                if type(field) is not tuple or len(field) != 2 or not is_name_told(field[0]):
                    return None
            told = [field[0] for field in part]
            if told != sorted(set(told)):
                return None
            found.extend(field[1] for field in part)
    return found


def term_size_and_depth(thing):
    """How many terms are in a thing and within one another; (None, None) where it has no term's form."""
    within = parts_told(thing)
    if within is None:
        return (None, None)
    found = [term_size_and_depth(part) for part in within]
    if (None, None) in found:
        return (None, None)
    return (1 + sum(size for size, depth in found), 1 + max([depth for size, depth in found], default=0))


def judged_or_bad(term):
    try:
        judged(term)
    except BadUse:
        pass


class TermsTest(unittest.TestCase):
    def test_how_many_terms(self):
        for term, text, count in GOOD_TERMS:
            self.assertEqual(terms_in(term), count, text)

    def test_each_word_is_there(self):
        self.assertEqual({term[0] for term, text, count in GOOD_TERMS}, set(SHAPES))

    def test_terms_within_one_another(self):
        for term, text, count in GOOD_TERMS:
            for other in term_held(term):
                self.assertEqual(terms_in(other), term_size_and_depth(other)[0], other)
        self.assertEqual(terms_in(term_held(num())[0]), 2)
        self.assertEqual(terms_in(new(call(new(num()), rec(("a", num()), ("b", truth()))))), 7)

    def test_kinds_are_not_counted(self):
        self.assertEqual(terms_in(as_kind(num(), wide(39))), 2)
        self.assertEqual(terms_in(fun("x", boxes(7), name("x"))), 2)

    def test_numbers_of_twenty_figures_and_of_one_more(self):
        for number in (MOST, -MOST, 10 ** 19, -(10 ** 19), 0, 1, -1):
            self.assertEqual(terms_in(num(number)), 1)
            self.assertEqual(judged(num(number)), NUM)
        for number in (MOST + 1, -MOST - 1, 10 ** 20, -(10 ** 20)):
            self.refused(num(number))
        for ask in (terms_in, judged, term_shown):
            with self.assertRaises(NoTerm):
                ask(num(-(10 ** 5000)))

    def test_at_the_bounds(self):
        for term, count in TERM_EDGES:
            self.assertEqual(terms_in(term), count)
            judged_or_bad(term)
            term_shown(term)

    def test_forty_terms_and_one_more(self):
        self.assertEqual(terms_in(wide_rec(39)), 40)
        self.refused(wide_rec(40))
        self.assertEqual(terms_in(call(wide_rec(19), wide_rec(18))), 40)
        self.refused(call(wide_rec(19), wide_rec(19)))

    def test_ten_within_one_another_and_one_more(self):
        self.assertEqual(terms_in(news(9)), 10)
        self.refused(news(10))
        for term in term_held(news(8))[:-1]:
            terms_in(term)
        for term in term_held(news(9)):
            self.refused(term)

    def test_beyond_the_bounds(self):
        for thing in BEYOND:
            self.refused(thing)
        self.refused(news(5000))
        term = num()
        for _ in range(9):
            term = wide_rec(39, term)
        self.refused(term)

    def test_what_is_no_term(self):
        for thing in BAD_TERMS:
            self.refused(thing)

    def test_what_is_no_term_within_good_terms(self):
        for bad in BAD_TERMS[:200] + BEYOND[:3] + ["x", "num", "", 5, 0, True, False]:
            for thing in term_held(bad):
                self.refused(thing)

    def test_no_term_ahead_of_a_bad_use(self):
        for bad in BAD_TERMS[:60]:
            with self.subTest(bad=bad), self.assertRaises(NoTerm):
                judged(call(name("x"), bad))
            with self.subTest(bad=bad), self.assertRaises(NoTerm):
                judged(rec(("a", get(num(), "a")), ("b", bad)))

    def test_small_changes_of_good_terms(self):
        refused = 0
        taken = 0
        for term, text, count in GOOD_TERMS:
            for thing in changed(term) + [("num", 5), ("truth", 5), ("name", 5)]:
                if not isinstance(thing, tuple):
                    continue
                size, depth = term_size_and_depth(thing)
                if size is None or size > 40 or depth > 10:
                    refused += 1
                    self.refused(thing)
                else:
                    taken += 1
                    self.assertEqual(terms_in(thing), size, thing)
        self.assertGreater(refused, 2000)
        self.assertGreater(taken, 100)

    def test_what_is_handed_in_stays_as_it_is(self):
        term = fun("x", row(), rec(("a", name("x"))))
        for ask in (terms_in, judged, term_shown):
            ask(term)
        self.assertEqual(term, ("fun", "x", ("row", (), False), ("rec", (("a", ("name", "x")),))))

    def refused(self, thing):
        for ask in (terms_in, judged, term_shown):
            with self.subTest(ask=ask.__name__, thing=reprlib.repr(thing)), self.assertRaises(NoTerm):
                ask(thing)


if __name__ == "__main__":
    unittest.main()
