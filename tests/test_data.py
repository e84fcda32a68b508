import itertools
import unittest

from castwright.data import fits, misfit, parting_value, sample_of
from castwright.errors import NoKind, NoValue
from castwright.kindnotes import kind_read
from castwright.kinds import is_data, is_known
from castwright.known import joined, met
from castwright.serving import either, serves
from samples import (ANY, BAD, EDGES, GOOD, NUM, TRUTH, all_below, box, may, must, names, nested_rows, open_row, row,
                     small_kinds, to, wide)

DATA = [kind for kind in small_kinds() if is_data(kind)]
NOT_DATA = [kind for kind in small_kinds() if not is_data(kind)] + [
    box(NUM), to(NUM, NUM), row(must("a", box(NUM))), row(may("a", to(NUM, NUM))), open_row(may("z", box(ANY))),
    row(must("a"), must("b", row(may("c", row(may("d", to(ANY, ANY))))))),
]


def nested_value(depth, value=5):
    for _ in range(depth):
        value = (("a", value),)
    return value


def wide_value(count, value=5):
    return tuple([(told, value) for told in names(count)])


# values, texts of kinds, and the first misfit
MISFITS = [
    (0, "any", None),
    (True, "any", None),
    ((), "any", None),
    ((("a", 1), ("b", ())), "any", None),
    (0, "num", None),
    (-5, "num", None),
    (10 ** 30, "num", None),
    (True, "num", ()),
    (False, "num", ()),
    ((), "num", ()),
    (True, "truth", None),
    (False, "truth", None),
    (1, "truth", ()),
    (0, "truth", ()),
    ((), "truth", ()),
    (0, "{}", ()),
    (True, "{..}", ()),
    (0, "{a: num}", ()),
    ((), "{}", None),
    ((), "{..}", None),
    ((), "{a?: num}", None),
    ((), "{a?: num, ..}", None),
    ((), "{a: num}", ("a",)),
    ((), "{a: any, ..}", ("a",)),
    ((), "{a?: num, b: num, c: num}", ("b",)),
    ((("a", 1),), "{}", ("a",)),
    ((("a", 1),), "{..}", None),
    ((("a", 1),), "{a: num}", None),
    ((("a", 1),), "{a?: num}", None),
    ((("a", 1),), "{a: any}", None),
    ((("a", 1),), "{a: truth}", ("a",)),
    ((("a", 1),), "{a?: truth, ..}", ("a",)),
    ((("a", True),), "{a: num}", ("a",)),
    ((("a", 1),), "{a: {}}", ("a",)),
    ((("a", ()),), "{a: num}", ("a",)),
    ((("a", 1),), "{b: num}", ("a",)),
    ((("b", 1),), "{a: num}", ("a",)),
    ((("b", 1),), "{a?: num}", ("b",)),
    ((("b", 1),), "{a?: num, ..}", None),
    ((("a", 1),), "{b: num, ..}", ("b",)),
    ((("a", 1), ("b", 2)), "{a: num, b: num}", None),
    ((("a", 1), ("b", 2)), "{a: num, b: truth}", ("b",)),
    ((("a", 1), ("b", 2)), "{a: truth, b: truth}", ("a",)),
    ((("a", 1), ("b", 2)), "{b: truth}", ("a",)),
    ((("a", 1), ("b", 2)), "{b: truth, ..}", ("b",)),
    ((("a", 1), ("b", 2)), "{a: num, ab: num, b: truth}", ("ab",)),
    ((("a", 1), ("c", 2)), "{a: num, b?: num, c: truth, d: num}", ("c",)),
    ((("a", 1), ("c", 2)), "{a: num, b?: num, c: num, d: num}", ("d",)),
    ((("a", ()),), "{a: {}}", None),
    ((("a", ()),), "{a: {b: num}}", ("a", "b")),
    ((("a", (("b", 1),)),), "{a: {b: num}}", None),
    ((("a", (("b", 1),)),), "{a: {b: truth}}", ("a", "b")),
    ((("a", (("b", 1),)),), "{a?: {}}", ("a", "b")),
    ((("a", (("b", 1),)),), "{a?: {..}}", None),
    ((("a", (("b", (("c", 1),)),)),), "{a: {b: {c: truth}}}", ("a", "b", "c")),
    ((("a", (("b", (("c", 1),)),)),), "{a: {b: {c: num, d?: num}}, ..}", None),
    ((("a", (("b", (("c", 1),)),)),), "{a: {b: num}}", ("a", "b")),
    ((("a", (("b", 1),)), ("c", 1)), "{a: {b: truth}}", ("a", "b")),
    ((("a", (("b", 1),)), ("c", 1)), "{a: {b: num}}", ("c",)),
    ((("b", (("b", True),)), ("c", 1)), "{a: num, b: {b: num}}", ("a",)),
    ((("b", (("b", True),)), ("c", 1)), "{a?: num, b: {b: num}}", ("b", "b")),
]

# Things that are no values, whatever they stand in.
NO_VALUES = [
    (("", 1),),
    (("A", 1),),
    (("a1", 1),),
    (("a ", 1),),
    (("a_b", 1),),
    (("abcdefghi", 1),),
    (("\u00e9", 1),),
    (("a", 1), ("a", 1)),
    (("a", 1), ("a", True)),
    (("b", 1), ("a", 1)),
    (("aa", 1), ("a", 1)),
    (("a", 1), ("c", 1), ("b", 1)),
    (("a", 1), ("b", 1), ("a", 1)),
    (("a", (("B", 1),)),),
    (("a", 1), ("b", (("d", 1), ("c", 1)))),
    nested_value(10),
    nested_value(10, True),
    nested_value(10, ()),
    nested_value(11),
    nested_value(300),
    wide_value(100),
    wide_value(101),
    wide_value(50, (("a", 1),)),
    (("a", wide_value(99)),),
    "",
    "a",
    "ab",
    ("a", 1),
    ("ab", "cd"),
    ((),),
    (("a",),),
    (("a", 1, 2),),
    ((1, "a"),),
    (((("a", 1),), 1),),
]

EDGE_VALUES = [nested_value(9), nested_value(9, ()), nested_value(9, False), wide_value(99), wide_value(98),
               wide_value(49, (("a", 1),)), (("a", wide_value(98)),), (("abcdefgh", 1),), (("a", 1), ("aa", 1)),
               nested_value(8, wide_value(91)), ()]


def fits_by_words(value, kind):
    """Point 61, word by word."""
    if kind == ANY:
        return True
    if kind in (NUM, TRUTH):
        return type(value) is {NUM: int, TRUTH: bool}[kind]
    if type(value) is not tuple:
        return False
    held_ones = dict(value)
    told = {name: inner for name, mark, inner in kind[1]}
    has_all = all(name in held_ones for name, mark, inner in kind[1] if mark == "must")
    has_no_more = kind[2] or set(held_ones) <= set(told)
    return has_all and has_no_more and all(fits_by_words(held_ones[name], told[name]) for name in told
                                           if name in held_ones)


def misfits_by_words(value, kind):
    """The paths of all places where a value doesn't fit, in their order."""
    if kind == ANY or (kind[0] != "row" and fits_by_words(value, kind)):
        return []
    if kind[0] != "row" or type(value) is not tuple:
        return [()]
    held_ones = dict(value)
    told = {name: (mark, inner) for name, mark, inner in kind[1]}
    found = []
    for name in sorted({*held_ones, *told}):
        if name in told and name in held_ones:
            found += [(name,) + path for path in misfits_by_words(held_ones[name], told[name][1])]
        elif name in told and told[name][0] == "must" or name not in told and not kind[2]:
            found.append((name,))
    return found


def small_values():
    """Rows of the names a, b and c and what may stand in them, each with each."""
    leaves = [0, 7, True, False, ()]
    inner = leaves + [(("b", 1),), (("b", True),), (("c", ()),), (("b", 1), ("c", 1))]
    ways = [[()] + [((told, value),) for value in values] for told, values in
            (("a", inner), ("b", leaves), ("c", [1, True]))]
    return inner + [sum(some, ()) for some in itertools.product(*ways)]


VALUES = small_values()


class FitsTest(unittest.TestCase):
    def test_first_misfits(self):
        for value, text, path in MISFITS:
            self.assertEqual(misfit(value, kind_read(text)), path, (value, text))
            self.assertIs(fits(value, kind_read(text)), path is None, (value, text))

    def test_each_small_value_and_kind(self):
        fitting = 0
        for kind in DATA:
            for value in VALUES:
                wanted = fits_by_words(value, kind)
                fitting += wanted
                self.assertIs(fits(value, kind), wanted, (value, kind))
                paths = misfits_by_words(value, kind)
                self.assertEqual(misfit(value, kind), paths[0] if paths else None, (value, kind))
        self.assertGreater(fitting, 2000)

    def test_values_at_the_bounds(self):
        for value in EDGE_VALUES:
            self.assertIs(fits(value, ANY), True, value)
            self.assertIs(fits(value, open_row()), True, value)
            self.assertIs(fits(value, row()), value == (), value)
            self.assertEqual(misfit(value, NUM), (), value)
        self.assertEqual(misfit(wide_value(99), wide(39)), (names(99)[39],))
        self.assertEqual(misfit(wide_value(38), wide(39)), (names(99)[38],))
        self.assertIs(fits(wide_value(39), wide(39)), True)
        self.assertIs(fits(nested_value(7), nested_rows(7)), True)
        self.assertEqual(misfit(nested_value(9), nested_rows(7)), ("a",) * 7)
        self.assertEqual(misfit(nested_value(6), nested_rows(7)), ("a",) * 6)

    def test_what_is_no_value(self):
        for thing in NO_VALUES:
            for kind in (ANY, NUM, TRUTH, row(), open_row(), row(must("a", row(may("b"))))):
                for ask in (fits, misfit):
                    with self.assertRaises(NoValue, msg=(thing, kind)):
                        ask(thing, kind)

    def test_what_is_no_value_within_values(self):
        for thing in NO_VALUES:
            around = (("a", thing),), (("a", 1), ("b", thing)), (("a", thing), ("b", 1)), (("z", (("z", thing),)),)
            for value in around:
                for kind in (ANY, NUM, row(), open_row()):
                    for ask in (fits, misfit):
                        with self.assertRaises(NoValue, msg=(value, kind)):
                            ask(value, kind)

    def test_no_kind_of_data_ahead_of_no_value(self):
        for kind in BAD + NOT_DATA:
            for value in (0, True, (), (("a", 1),), NO_VALUES[0], NO_VALUES[7], nested_value(10), wide_value(100)):
                for ask in (fits, misfit):
                    with self.assertRaises(NoKind, msg=(value, kind)):
                        ask(value, kind)

    def test_which_kinds_are_of_data(self):
        for kind, text, count, known, data in GOOD:
            if data:
                self.assertIs(type(fits(0, kind)), bool, text)
            else:
                with self.assertRaises(NoKind, msg=text):
                    fits(0, kind)


class SampleTest(unittest.TestCase):
    def test_a_sample_fits(self):
        edges = [kind for kind, count in EDGES if is_data(kind)]
        self.assertGreater(len(edges), 2)
        for kind in DATA + edges + [kind for kind, text, count, known, data in GOOD if data]:
            self.assertIs(fits(sample_of(kind), kind), True, kind)
            self.assertTrue(fits_by_words(sample_of(kind), kind), kind)

    def test_what_is_no_kind_of_data(self):
        for kind in BAD + NOT_DATA:
            with self.assertRaises(NoKind, msg=kind):
                sample_of(kind)


# texts of kinds, and whether a value parts the first from the second
PARTED = [
    ("any", "any", False),
    ("any", "num", True),
    ("any", "truth", True),
    ("any", "{..}", True),
    ("num", "any", False),
    ("num", "num", False),
    ("num", "truth", True),
    ("truth", "num", True),
    ("truth", "truth", False),
    ("num", "{..}", True),
    ("{..}", "num", True),
    ("{}", "{..}", False),
    ("{..}", "{}", True),
    ("{a: num}", "{..}", False),
    ("{a: num}", "{a?: num}", False),
    ("{a?: num}", "{a: num}", True),
    ("{a?: num}", "{a?: any}", False),
    ("{a?: any}", "{a?: num}", True),
    ("{a?: num}", "{}", True),
    ("{}", "{a?: num}", False),
    ("{}", "{a: num}", True),
    ("{..}", "{a?: any, ..}", False),
    ("{..}", "{a: any, ..}", True),
    ("{..}", "{a?: num, ..}", True),
    ("{a?: any, ..}", "{..}", False),
    ("{a: num, ..}", "{a: num}", True),
    ("{a: num}", "{a: num, ..}", False),
    ("{a: num}", "{a: num, b: num}", True),
    ("{a: num, b: num}", "{a: num}", True),
    ("{a: num, b: num}", "{a: num, b: truth}", True),
    ("{a: num, b?: num}", "{a: num, b?: truth}", True),
    ("{a: {b: num}}", "{a: {b?: num}}", False),
    ("{a: {b?: num}}", "{a: {b: num}}", True),
    ("{a?: {b?: num}}", "{a?: {b: num}}", True),
    ("{a?: {b: num, ..}}", "{a?: {b: num}}", True),
    ("{a?: {b: num}}", "{a?: {b: num, ..}}", False),
    ("{a: any}", "{a: {..}}", True),
]


class PartingTest(unittest.TestCase):
    def test_pairs(self):
        for one, other, is_parted in PARTED:
            self.assertIs(parting_value(kind_read(one), kind_read(other)) is not None, is_parted, (one, other))

    def test_each_pair_of_small_kinds(self):
        fitting = {kind: {at for at, value in enumerate(VALUES) if fits_by_words(value, kind)} for kind in DATA}
        for one in DATA:
            for other in DATA:
                found = parting_value(one, other)
                self.assertEqual(found is None, not fitting[one] - fitting[other], (one, other, found))
                if found is not None:
                    self.assertIs(fits(found, one), True, (one, other, found))
                    self.assertIs(fits(found, other), False, (one, other, found))

    def test_known_kinds_of_data(self):
        known = [kind for kind in DATA if is_known(kind)]
        self.assertGreater(len(known), 15)
        for one in known:
            for other in known:
                self.assertIs(parting_value(one, other) is None, serves(one, other), (one, other))

    def test_kinds_at_the_bounds(self):
        edges = [kind for kind, count in EDGES if is_data(kind)]
        edges += [wide(39, TRUTH), ("row", wide(39)[1], True), ("row", wide(20)[1], True), nested_rows(7, TRUTH),
                  nested_rows(7, ANY), nested_rows(7, open_row()), nested_rows(7, row()), row(), open_row(),
                  row(*[may(told, ANY) for told in names(39)]), open_row(*[may(told, ANY) for told in names(39)]),
                  row(*[may(told, ANY) for told in names(78)[39:]]), open_row(*[must(told) for told in names(78)[39:]])]
        for one in edges:
            for other in edges:
                found = parting_value(one, other)
                if found is not None:
                    self.assertIs(fits(found, one) and not fits(found, other), True, (one, other, found))
                if is_known(one) and is_known(other):
                    self.assertIs(found is None, serves(one, other), (one, other))
        # Told by many names, but not by all.
        many = open_row(*[may(told, ANY) for told in names(39)])
        self.assertIsNone(parting_value(open_row(), many))
        self.assertIsNone(parting_value(many, open_row()))
        self.assertIsNotNone(parting_value(many, row(*many[1])))
        self.assertIsNotNone(parting_value(open_row(), row(*many[1])))
        self.assertIsNone(parting_value(row(*many[1]), many))
        letters = open_row(*[may(told, ANY) for told in "abcdefghijklmnopqrstuvwxyz"])
        self.assertIsNotNone(parting_value(letters, row(*letters[1])))

    def test_what_is_no_kind_of_data_in_either_place(self):
        for kind in BAD + NOT_DATA:
            for other in (ANY, NUM, row(), open_row(must("a")), kind):
                for pair in ((kind, other), (other, kind)):
                    with self.assertRaises(NoKind, msg=pair):
                        parting_value(*pair)


class KindsTogetherTest(unittest.TestCase):
    def test_met_either_and_joined(self):
        fitting = {kind: {at for at, value in enumerate(VALUES) if fits(value, kind)} for kind in DATA}
        met_ones = 0

        def fits_all(kind):
            if kind not in fitting:
                fitting[kind] = {at for at, value in enumerate(VALUES) if fits(value, kind)}
            return fitting[kind]
        for one in DATA:
            for other in DATA:
                both = met(one, other)
                if both is not None:
                    met_ones += 1
                    self.assertEqual(fits_all(both), fits_all(one) & fits_all(other), (one, other))
                self.assertLessEqual(fits_all(one) | fits_all(other), fits_all(either(one, other)), (one, other))
                self.assertLessEqual(fits_all(one) | fits_all(other), fits_all(joined(one, other)), (one, other))
        self.assertGreater(met_ones, 500)

    def test_what_fits_a_kind_fits_each_that_is_no_more_known(self):
        for kind in DATA:
            for less in all_below(kind):
                self.assertIsNone(parting_value(kind, less), (kind, less))


if __name__ == "__main__":
    unittest.main()
