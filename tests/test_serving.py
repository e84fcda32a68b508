import unittest

from castwright.errors import NoKind
from castwright.kindnotes import kind_read
from castwright.kinds import is_data, is_known, parts_in
from castwright.known import first_clash, joined, knows_less
from castwright.serving import either, first_lack, serves
from samples import (ANY, BAD, EDGES, GOOD, NUM, TRUTH, all_below, box, boxes, held, may, must, names, open_row, row,
                     small_kinds, to, wide)

POOL = small_kinds()
HEADS = [NUM, TRUTH, to(NUM, NUM), box(NUM), row()]

# texts of two kinds, and the first lack of the one as the other
LACKS = [
    ("any", "any", None),
    ("any", "num", None),
    ("num", "any", None),
    ("any", "(num > num)", None),
    ("{a: num}", "any", None),
    ("num", "num", None),
    ("num", "truth", ()),
    ("truth", "num", ()),
    ("num", "[num]", ()),
    ("[num]", "num", ()),
    ("(num > num)", "[num]", ()),
    ("{..}", "(any > any)", ()),
    ("(num > num)", "(num > num)", None),
    ("(any > num)", "(num > any)", None),
    ("(num > num)", "(truth > num)", ("in",)),
    ("(num > num)", "(num > truth)", ("out",)),
    ("(num > num)", "(truth > truth)", ("in",)),
    ("(any > num)", "(truth > truth)", ("out",)),
    ("({a?: num} > num)", "({a: num} > num)", None),
    ("({a: num} > num)", "({a?: num} > num)", ("in", "a")),
    ("({a?: num} > num)", "({} > num)", None),
    ("({} > num)", "({a?: num} > num)", ("in", "a")),
    ("(num > {a: num})", "(num > {a?: num})", None),
    ("(num > {a?: num})", "(num > {a: num})", ("out", "a")),
    ("(({a: num} > num) > num)", "(({a?: num} > num) > num)", None),
    ("(({a?: num} > num) > num)", "(({a: num} > num) > num)", ("in", "in", "a")),
    ("((num > {a?: num}) > num)", "((num > {a: num}) > num)", None),
    ("((num > {a: num}) > num)", "((num > {a?: num}) > num)", ("in", "out", "a")),
    ("(num > (num > num))", "(num > (truth > truth))", ("out", "in")),
    ("[num]", "[num]", None),
    ("[num]", "[any]", None),
    ("[any]", "[num]", None),
    ("[num]", "[truth]", ("inside",)),
    ("[{a: num}]", "[{a?: num}]", ("inside", "a")),
    ("[{}]", "[{a?: num}]", ("inside", "a")),
    ("[{a: num}]", "[{..}]", None),
    ("[{..}]", "[{a?: num}]", None),
    ("[(num > num)]", "[(truth > truth)]", ("inside", "in")),
    ("[(any > num)]", "[(truth > truth)]", ("inside", "out")),
    ("[[num]]", "[[truth]]", ("inside", "inside")),
    ("[({a?: num} > num)]", "[({a: num} > num)]", ("inside", "in", "a")),
    ("{}", "{}", None),
    ("{}", "{a?: num}", None),
    ("{}", "{a: num}", ("a",)),
    ("{}", "{..}", None),
    ("{}", "{a: num, ..}", ("a",)),
    ("{}", "{a?: num, ..}", None),
    ("{a: num}", "{a: num}", None),
    ("{a: num}", "{a?: num}", None),
    ("{a: num}", "{}", ("a",)),
    ("{a: num}", "{..}", None),
    ("{a: num}", "{a: truth}", ("a",)),
    ("{a: num}", "{a?: truth}", ("a",)),
    ("{a: num}", "{a: any}", None),
    ("{a: any}", "{a: num}", None),
    ("{a?: num}", "{a?: num}", None),
    ("{a?: num}", "{a: num}", ("a",)),
    ("{a?: any}", "{a: any}", ("a",)),
    ("{a?: num}", "{}", ("a",)),
    ("{a?: num}", "{..}", None),
    ("{a?: num}", "{a?: truth}", ("a",)),
    ("{a?: num, ..}", "{a: num, ..}", ("a",)),
    ("{..}", "{}", None),
    ("{..}", "{a: num}", None),
    ("{..}", "{a?: num}", None),
    ("{..}", "{..}", None),
    ("{a: num, ..}", "{}", ("a",)),
    ("{a: num, ..}", "{b: num}", ("a",)),
    ("{b: num, ..}", "{a: num, b: num}", None),
    ("{a: num, ..}", "{b: num, ..}", None),
    ("{a: num, b: num}", "{a: num}", ("b",)),
    ("{a: num}", "{a: num, b: num}", ("b",)),
    ("{a: num}", "{a: num, b?: num}", None),
    ("{a: num, c: num}", "{b: num, c: num}", ("a",)),
    ("{b: num}", "{a: num, b: truth}", ("a",)),
    ("{a: {b: num}, c: num}", "{a: {b: truth}, c: truth}", ("a", "b")),
    ("{a: {b: num}, c: num}", "{a: {b?: num}, c: truth}", ("c",)),
    ("{a?: {b?: num}}", "{a?: {b: num}}", ("a", "b")),
    ("{a?: {b?: num}}", "{a: {b: num}}", ("a",)),
    ("{a: [num]}", "{a?: [truth]}", ("a", "inside")),
    ("{a: (num > truth)}", "{a: (truth > truth)}", ("a", "in")),
    ("{a: num, b: [{c: num}]}", "{a: num, b?: [{c?: num}]}", ("b", "inside", "c")),
]

# texts of two kinds, and either of them
EITHERS = [
    ("any", "any", "any"),
    ("any", "num", "any"),
    ("any", "{..}", "any"),
    ("num", "num", "num"),
    ("truth", "truth", "truth"),
    ("num", "truth", "any"),
    ("num", "[num]", "any"),
    ("[num]", "(num > num)", "any"),
    ("{}", "(num > num)", "any"),
    ("(num > num)", "(num > num)", "(num > num)"),
    ("(num > num)", "(truth > num)", "(any > num)"),
    ("(num > num)", "(num > truth)", "(num > any)"),
    ("({a: num} > {a: num})", "({a?: num} > {a?: num})", "({..} > {a?: num})"),
    ("({a: num} > {a: num})", "({} > {})", "({..} > {a?: num})"),
    ("({a: num, b: num} > {})", "({a: truth, b?: num} > {})", "({a: any, ..} > {})"),
    ("(num > (num > {}))", "(num > (truth > {a: num}))", "(num > (any > {a?: num}))"),
    ("[num]", "[num]", "[num]"),
    ("[num]", "[truth]", "[any]"),
    ("[{a: num}]", "[{a?: num}]", "[{..}]"),
    ("[{a: num}]", "[{}]", "[{..}]"),
    ("[{a: num, b: num}]", "[{a: truth, b: num}]", "[{a: any, b: num}]"),
    ("{}", "{}", "{}"),
    ("{}", "{..}", "{..}"),
    ("{..}", "{..}", "{..}"),
    ("{a: num}", "{a: num}", "{a: num}"),
    ("{a: num}", "{a?: num}", "{a?: num}"),
    ("{a?: num}", "{a?: num}", "{a?: num}"),
    ("{a: num}", "{a: truth}", "{a: any}"),
    ("{a: num}", "{a?: truth}", "{a?: any}"),
    ("{a: num}", "{}", "{a?: num}"),
    ("{a?: num}", "{}", "{a?: num}"),
    ("{a: num}", "{..}", "{..}"),
    ("{a?: num}", "{..}", "{..}"),
    ("{a: num, ..}", "{}", "{a?: num, ..}"),
    ("{a?: num, ..}", "{}", "{a?: num, ..}"),
    ("{a: num, ..}", "{..}", "{..}"),
    ("{a: num, ..}", "{a: num}", "{a: num, ..}"),
    ("{a: num, ..}", "{a?: num}", "{a?: num, ..}"),
    ("{a: num, ..}", "{b: num}", "{a?: num, ..}"),
    ("{a: num, ..}", "{b: num, ..}", "{..}"),
    ("{a: num}", "{b: truth}", "{a?: num, b?: truth}"),
    ("{b: num, c: num}", "{a: num, c?: num, d?: num}", "{a?: num, b?: num, c?: num, d?: num}"),
    ("{a: {b: num}}", "{a: {c: num}}", "{a: {b?: num, c?: num}}"),
    ("{a: [{b: num}]}", "{a?: [{c: num}]}", "{a?: [{..}]}"),
]


def values_of(kind):
    """Some values of a known kind of data, enough to tell such small kinds apart."""
    if kind == NUM:
        return [5]
    if kind == TRUTH:
        return [True]
    found = [()]
    for name, mark, inner in kind[1]:
        ways = [((name, value),) for value in values_of(inner)] + ([()] if mark == "may" else [])
        found = [some + way for some in found for way in ways]
    return found


def is_value_of(value, kind):
    """Whether a value is one of a known kind of data."""
    if kind[0] != "row":
        return type(value) is (int if kind == NUM else bool)
    if type(value) is not tuple:
        return False
    told = {name: (mark, inner) for name, mark, inner in kind[1]}
    held_ones = dict(value)
    if any(mark == "must" and name not in held_ones for name, (mark, inner) in told.items()):
        return False
    return all(name in told and is_value_of(part, told[name][1]) for name, part in held_ones.items())


class ServesTest(unittest.TestCase):
    def test_first_lack_and_serving(self):
        for one, other, lack in LACKS:
            self.assertEqual(first_lack(kind_read(one), kind_read(other)), lack, (one, other))
            self.assertIs(serves(kind_read(one), kind_read(other)), lack is None, (one, other))

    def test_any_on_either_side(self):
        for kind in POOL:
            for pair in ((ANY, kind), (kind, ANY)):
                self.assertIs(serves(*pair), True, pair)
                self.assertIsNone(first_lack(*pair), pair)

    def test_each_pair_of_heads(self):
        for one in HEADS:
            for other in HEADS:
                self.assertIs(serves(one, other), one == other)
                self.assertEqual(first_lack(one, other), None if one == other else ())

    def test_each_kind_serves_as_itself(self):
        for kind in POOL + [kind for kind, parts in EDGES]:
            self.assertIs(serves(kind, kind), True, kind)

    def test_entries_of_each_sort_on_either_side(self):
        entries = {"must": row(must("a")), "may": row(may("a")), "none": row(), "free": open_row()}
        serving = {("none", "none"), ("none", "may"), ("must", "must"), ("must", "may"), ("may", "may")}
        for one in entries:
            for other in entries:
                wanted = (one, other) in serving or "free" in (one, other)
                self.assertIs(serves(entries[one], entries[other]), wanted, (one, other))
                self.assertEqual(first_lack(entries[one], entries[other]), None if wanted else ("a",))

    def test_entries_whose_kinds_do_not_serve(self):
        for one in (must("a"), may("a")):
            for other in (must("a", TRUTH), may("a", TRUTH)):
                self.assertIs(serves(row(one), row(other)), False)
                self.assertEqual(first_lack(row(one), row(other)), ("a",))
        self.assertEqual(first_lack(row(must("a", row(must("b")))), row(must("a", row(must("b", TRUTH))))), ("a", "b"))
        self.assertEqual(first_lack(row(may("a", row(must("b")))), row(must("a", row(must("b", TRUTH))))), ("a",))

    def test_a_lack_just_where_it_does_not_serve(self):
        lacking = 0
        for one in POOL:
            for other in POOL:
                lack = first_lack(one, other)
                self.assertIs(serves(one, other), lack is None, (one, other))
                lacking += lack is not None
        self.assertGreater(lacking, 1000)

    def test_boxes_serve_just_where_their_insides_can_be_one(self):
        for one in POOL:
            for other in POOL:
                clash = first_clash(one, other)
                self.assertIs(serves(box(one), box(other)), clash is None, (one, other))
                self.assertEqual(first_lack(box(one), box(other)), None if clash is None else ("inside",) + clash)

    def test_functions_turn_their_ins_about(self):
        for one in POOL:
            for other in POOL:
                lack = first_lack(one, other)
                self.assertEqual(first_lack(to(NUM, one), to(NUM, other)), None if lack is None else ("out",) + lack)
                self.assertEqual(first_lack(to(other, NUM), to(one, NUM)), None if lack is None else ("in",) + lack)
                if lack is not None:
                    self.assertEqual(first_lack(to(other, NUM), to(one, TRUTH)), ("in",) + lack)

    def test_known_kinds_of_data_against_their_values(self):
        data = [kind for kind in POOL if is_known(kind) and is_data(kind)]
        self.assertGreater(len(data), 15)
        for one in data:
            for other in data:
                wanted = all(is_value_of(value, other) for value in values_of(one))
                self.assertIs(serves(one, other), wanted, (one, other))


class KnowingLessTest(unittest.TestCase):
    def test_what_knows_less_serves_the_more(self):
        below = {kind: sorted(all_below(kind), key=repr) for kind in POOL}
        held_ones = 0
        for one in POOL:
            for other in POOL:
                if serves(one, other):
                    for less in below[one]:
                        self.assertIs(serves(less, other), True, (less, one, other))
                    for less in below[other]:
                        self.assertIs(serves(one, less), True, (one, less, other))
                    held_ones += 1
        self.assertGreater(held_ones, 1000)

    def test_kinds_with_parts_forgotten(self):
        one = kind_read("({a?: num, b: [num]} > {a: num, b: {c: num}})")
        other = kind_read("({a: num, b: [num]} > {a?: num, b: {c?: num}})")
        self.assertIs(serves(one, other), True)
        self.assertIs(serves(other, one), False)
        for less in all_below(one):
            self.assertIs(serves(less, other), True, less)
        for less in all_below(other):
            self.assertIs(serves(one, less), True, less)

    def test_three_kinds_in_which_nothing_is_unknown(self):
        known = [kind for kind in POOL if is_known(kind)]
        steps = 0
        for one in known:
            for other in known:
                for third in known:
                    if serves(one, other) and serves(other, third):
                        self.assertIs(serves(one, third), True, (one, other, third))
                        steps += one != other != third
        self.assertGreater(steps, 10)

    def test_through_an_unknown_kind_it_need_not(self):
        self.assertIs(serves(NUM, ANY) and serves(ANY, TRUTH), True)
        self.assertIs(serves(NUM, TRUTH), False)


class EitherTest(unittest.TestCase):
    def test_either_way_about(self):
        for one, other, wanted in EITHERS:
            self.assertEqual(either(kind_read(one), kind_read(other)), kind_read(wanted), (one, other))
            self.assertEqual(either(kind_read(other), kind_read(one)), kind_read(wanted), (other, one))

    def test_each_pair_of_heads(self):
        for one in HEADS + [ANY]:
            for other in HEADS + [ANY]:
                self.assertEqual(either(one, other), one if one == other else ANY)

    def test_entries_of_each_sort(self):
        entries = {"must": row(must("a")), "may": row(may("a")), "none": row(), "free": open_row()}
        for one in entries:
            for other in entries:
                if "free" in (one, other):
                    wanted = open_row()
                elif one == other == "none":
                    wanted = row()
                else:
                    wanted = row(must("a")) if one == other == "must" else row(may("a"))
                self.assertEqual(either(entries[one], entries[other]), wanted, (one, other))

    def test_functions_and_boxes(self):
        for one in POOL:
            for other in POOL:
                self.assertEqual(either(box(one), box(other)), box(joined(one, other)))
                self.assertEqual(either(to(one, one), to(other, other)), to(joined(one, other), either(one, other)))

    def test_both_kinds_serve_as_either_of_them(self):
        for one in POOL:
            for other in POOL:
                kind = either(one, other)
                self.assertIs(serves(one, kind), True, (one, other))
                self.assertIs(serves(other, kind), True, (one, other))
                self.assertEqual(kind, either(other, one), (one, other))

    def test_known_either_serves_as_whatever_both_serve_as(self):
        data = [kind for kind in POOL if is_known(kind) and is_data(kind)]
        for one in data:
            for other in data:
                kind = either(one, other)
                for third in data:
                    if is_known(kind) and serves(one, third) and serves(other, third):
                        self.assertIs(serves(kind, third), True, (one, other, third))

    def test_a_kind_that_is_no_more_known_gives_one_that_is_no_more_known(self):
        for one in POOL:
            for other in POOL[::3]:
                for less in sorted(all_below(one), key=repr):
                    self.assertIs(knows_less(either(less, other), either(one, other)), True, (less, one, other))

    def test_more_than_forty_parts(self):
        first = names(60)[:30]
        second = names(60)[30:]
        kind = either(row(*[must(name) for name in first]), row(*[must(name, TRUTH) for name in second]))
        self.assertEqual(kind, row(*[may(name) for name in first], *[may(name, TRUTH) for name in second]))
        self.assertEqual(either(wide(39), row(must("zz"))), row(*[may(name) for name in names(39)], may("zz")))
        with self.assertRaises(NoKind):
            parts_in(kind)
        with self.assertRaises(NoKind):
            either(kind, kind)

    def test_the_truth_of_an_open_row_is_a_truth(self):
        self.assertIs(either(row(), row())[2], False)
        self.assertIs(either(row(), open_row())[2], True)
        self.assertIs(either(open_row(), row())[2], True)


class KindsTest(unittest.TestCase):
    def test_what_is_no_kind_in_either_place(self):
        for thing in BAD + [bad for other in BAD[:40] for bad in held(other)]:
            for call in (serves, first_lack, either):
                for good in (ANY, NUM, row(must("a"))):
                    with self.subTest(thing=thing), self.assertRaises(NoKind):
                        call(thing, good)
                    with self.subTest(thing=thing), self.assertRaises(NoKind):
                        call(good, thing)
                with self.subTest(thing=thing), self.assertRaises(NoKind):
                    call(thing, thing)

    def test_good_kinds_and_kinds_at_the_bounds_are_taken(self):
        for kind in [kind for kind, text, parts, known, data in GOOD] + [kind for kind, parts in EDGES]:
            self.assertEqual(either(kind, kind), kind)
            self.assertIsNone(first_lack(kind, kind))
        self.assertEqual(first_lack(boxes(7), boxes(7, TRUTH)), ("inside",) * 7)


if __name__ == "__main__":
    unittest.main()
