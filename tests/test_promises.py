"""What is promised of all runs, held against many terms of all sorts."""

import unittest

from castwright.data import misfit_of
from castwright.forgets import forgettings, forgotten
from castwright.kinds import kinds_in
from castwright.known import is_less
from castwright.runs import outcome
from castwright.termnotes import term_read
from castwright.terms import judged
from reckoner import kinds_where, parts, second_outcome
from samples import forgotten_once
from termmaker import is_judged, made_terms
from termsamples import FORM_WORDS, as_kind, fun

# Runs without end, the first of them of a term in which all kinds are known.
ENDLESS = [term_read(text) for text in (
    "call(fun(b: [(num > num)], call(write(name(b), fun(n: num, call(read(name(b)), plus(name(n), num(1))))), num(0))),"
    " new(fun(n: num, name(n))))",
    "call(fun(x: any, call(name(x), name(x))), fun(x: any, call(name(x), name(x))))",
    "call(fun(x: (any > num), call(name(x), name(x))), fun(x: any, call(as(name(x), (any > num)), name(x))))",
    "call(fun(r: {f: any, ..}, call(get(name(r), f), name(r))),"
    " rec(f: fun(s: {f: (any > num)}, plus(num(1), call(get(name(s), f), name(s))))))",
)]
TERMS = ENDLESS + made_terms(400, 1, 0) + made_terms(500, 2, 0.15) + made_terms(300, 3, 0.4)
FUELS = (0, 1, 2, 3, 5, 8, 13, 21, 34, 55, 100, 120)


def words_in(term):
    yield term[0]
    for part in parts(term):
        yield from words_in(part)


def told_kinds(term):
    if term[0] in ("fun", "as"):
        yield term[2]
    for part in parts(term):
        yield from told_kinds(part)


def is_all_known(kind):
    return not any(part == ("any",) or part[0] == "row" and part[2] for part in kinds_in(kind))


def is_of_data(kind):
    return not any(part[0] in ("to", "box") for part in kinds_in(kind))


class SecondReckonerTest(unittest.TestCase):
    def test_both_tell_the_same_with_each_amount_of_fuel(self):
        found = {}
        for term in TERMS:
            for fuel in FUELS:
                told = outcome(term, fuel)
                self.assertEqual(told, second_outcome(term, fuel), (term, fuel))
            sort = told[0] + (told[2] if told[0] == "blame" else "")
            found[sort] = found.get(sort, 0) + 1
        for sort, least in (("value", 500), ("blameout", 150), ("blamein", 20)):
            self.assertGreater(found[sort], least, sort)

    def test_all_words_are_among_the_terms(self):
        words = [word for term in TERMS for word in words_in(term)]
        for word in FORM_WORDS:
            self.assertGreater(words.count(word), 10, word)


class RunsTest(unittest.TestCase):
    def test_a_term_of_known_kinds_is_never_to_blame(self):
        known = 0
        for term in TERMS:
            if all(is_all_known(kind) for kind in [*told_kinds(term), *kinds_where(term)]):
                known += 1
                self.assertNotEqual(outcome(term, 120)[0], "blame", term)
        self.assertGreater(known, 150)

    def test_what_is_told_fits_the_judged_kind(self):
        fitting = 0
        for term in TERMS:
            told = outcome(term, 120)
            kind = judged(term)
            if told[0] == "value" and is_of_data(kind) and is_data_told(told[1]):
                fitting += 1
                self.assertIsNone(misfit_of(told[1], kind), (term, told))
        self.assertGreater(fitting, 300)

    def test_more_fuel_tells_the_same(self):
        for term in TERMS:
            told = [outcome(term, fuel) for fuel in FUELS]
            for before, behind in zip(told, told[1:]):
                if before != ("spent",):
                    self.assertEqual(before, behind, term)

    def test_a_run_tells_the_same_each_time(self):
        for term in TERMS[::10]:
            self.assertEqual(outcome(term, 120), outcome(term, 120), term)


def is_data_told(told):
    """What is told of functions and boxes is no value of data."""
    if not isinstance(told, tuple):
        return True
    return told not in (("fun",), ("box",)) and all(is_data_told(inner) for name, inner in told)


class ForgettingTest(unittest.TestCase):
    def test_forgetting_one_part_or_all(self):
        found = {}
        for term in TERMS[::2]:
            for less in forgettings(term) + [forgotten(term)]:
                self.hold(term, less, found)
        for pair, least in ((("value", "value"), 500), (("blame", "blame"), 100), (("blame", "value"), 20)):
            self.assertGreater(found[pair], least, pair)

    def test_runs_without_end(self):
        for term in ENDLESS:
            self.assertEqual(outcome(term, 120), ("spent",), term)
            for less in forgettings(term) + [forgotten(term)]:
                self.hold(term, less, {})

    def test_forgetting_part_after_part(self):
        for term in TERMS[::7]:
            less = term
            while forgettings(less):
                some = forgettings(less)
                less = some[len(some) // 2]
                self.hold(term, less, {})

    def test_leaving_out_fields_of_open_rows(self):
        # Such terms are no more known too, though they don't come of forgetting one part.
        checked = 0
        for term in TERMS[1::3]:
            if term[0] in ("as", "fun"):
                for kind in forgotten_once(term[2]):
                    less = as_kind(term[1], kind) if term[0] == "as" else fun(term[1], kind, term[3])
                    self.hold(term, less, {})
                    checked += 1
        self.assertGreater(checked, 100)

    def test_terms_that_are_not_judged_are_let_be(self):
        term = fun("x", ("num",), ("read", ("name", "x")))
        self.assertFalse(is_judged(term))
        self.assertEqual(forgettings(term), [fun("x", ("any",), ("read", ("name", "x")))])

    def hold(self, term, less, found):
        self.assertTrue(is_less(judged(less), judged(term)), (term, less))
        for fuel in (120, 100, 9, 3, 0):
            one = outcome(term, fuel)
            other = outcome(less, fuel)
            if one[0] != "blame":
                self.assertEqual(other, one, (term, less, fuel))
            if other[0] == "blame":
                self.assertEqual(one[0], "blame", (term, less, fuel))
            found[(one[0], other[0])] = found.get((one[0], other[0]), 0) + 1


if __name__ == "__main__":
    unittest.main()
