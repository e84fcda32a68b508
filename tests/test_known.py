import unittest

from castwright.errors import NoKind
from castwright.kindnotes import kind_read
from castwright.kinds import is_known, parts_in
from castwright.known import clashes, first_clash, joined, knows_less, met
from samples import (ANY, BAD, EDGES, GOOD, NUM, TRUTH, all_below, box, boxes, held, may, must, names, open_row, row,
                     small_kinds, small_rows, to, wide)

POOL = small_kinds()
BELOW = {kind: all_below(kind) for kind in POOL}

# one of each head
HEADS = [NUM, TRUTH, to(NUM, NUM), box(NUM), row()]

# texts of two kinds, what they meet in or None, their first clash or None, what they are joined
PAIRS = [
    ("any", "any", "any", None, "any"),
    ("any", "num", "num", None, "any"),
    ("any", "{a?: [num]}", "{a?: [num]}", None, "any"),
    ("num", "num", "num", None, "num"),
    ("num", "truth", None, (), "any"),
    ("num", "(num > num)", None, (), "any"),
    ("num", "[num]", None, (), "any"),
    ("num", "{}", None, (), "any"),
    ("truth", "{..}", None, (), "any"),
    ("[num]", "(num > num)", None, (), "any"),
    ("[any]", "{..}", None, (), "any"),
    ("(any > any)", "{..}", None, (), "any"),
    ("(num > truth)", "(num > truth)", "(num > truth)", None, "(num > truth)"),
    ("(any > truth)", "(num > any)", "(num > truth)", None, "(any > any)"),
    ("(num > num)", "(truth > num)", None, ("in",), "(any > num)"),
    ("(num > num)", "(num > truth)", None, ("out",), "(num > any)"),
    ("(num > num)", "(truth > truth)", None, ("in",), "(any > any)"),
    ("(any > num)", "(truth > truth)", None, ("out",), "(any > any)"),
    ("((num > num) > num)", "((num > truth) > truth)", None, ("in", "out"), "((num > any) > any)"),
    ("(num > (num > num))", "(num > (truth > truth))", None, ("out", "in"), "(num > (any > any))"),
    ("[num]", "[num]", "[num]", None, "[num]"),
    ("[any]", "[num]", "[num]", None, "[any]"),
    ("[num]", "[truth]", None, ("inside",), "[any]"),
    ("[[num]]", "[[truth]]", None, ("inside", "inside"), "[[any]]"),
    ("[[num]]", "[num]", None, ("inside",), "[any]"),
    ("{}", "{}", "{}", None, "{}"),
    ("{}", "{..}", "{}", None, "{..}"),
    ("{..}", "{..}", "{..}", None, "{..}"),
    ("{a: num}", "{a: num}", "{a: num}", None, "{a: num}"),
    ("{a?: num}", "{a?: num}", "{a?: num}", None, "{a?: num}"),
    ("{a: num}", "{a?: num}", None, ("a",), "{..}"),
    ("{a: num}", "{}", None, ("a",), "{..}"),
    ("{a?: num}", "{}", None, ("a",), "{..}"),
    ("{a: num}", "{..}", "{a: num}", None, "{..}"),
    ("{a?: num}", "{..}", "{a?: num}", None, "{..}"),
    ("{a: num, ..}", "{..}", "{a: num, ..}", None, "{..}"),
    ("{a: num, ..}", "{}", None, ("a",), "{..}"),
    ("{a?: num, ..}", "{}", None, ("a",), "{..}"),
    ("{a: num, ..}", "{a?: num}", None, ("a",), "{..}"),
    ("{a: num, ..}", "{a?: num, ..}", None, ("a",), "{..}"),
    ("{a: num, ..}", "{a: num}", "{a: num}", None, "{a: num, ..}"),
    ("{a: any, ..}", "{a: num}", "{a: num}", None, "{a: any, ..}"),
    ("{a: any}", "{a: num, ..}", "{a: num}", None, "{a: any, ..}"),
    ("{a: num}", "{a: truth}", None, ("a",), "{a: any}"),
    ("{a?: num}", "{a?: truth}", None, ("a",), "{a?: any}"),
    ("{a: num}", "{b: num}", None, ("a",), "{..}"),
    ("{b: num}", "{c: num, ..}", None, ("c",), "{..}"),
    ("{a: num, ..}", "{b: num}", None, ("a",), "{..}"),
    ("{a: num, ..}", "{b: num, ..}", "{a: num, b: num, ..}", None, "{..}"),
    ("{a: num, c?: any, ..}", "{b?: truth, c?: num, ..}", "{a: num, b?: truth, c?: num, ..}", None, "{c?: any, ..}"),
    ("{a: num, b: num}", "{a: num, b?: num}", None, ("b",), "{a: num, ..}"),
    ("{a: num, b: num}", "{a: truth, b?: num}", None, ("a",), "{a: any, ..}"),
    ("{a: num, b: num}", "{a: num}", None, ("b",), "{a: num, ..}"),
    ("{a: [num], b: num}", "{a: [truth]}", None, ("a", "inside"), "{a: [any], ..}"),
    ("{b: [num], c: num}", "{b: [truth], c: truth}", None, ("b", "inside"), "{b: [any], c: any}"),
    ("{a: num, b: [num]}", "{b: [truth], ..}", None, ("b", "inside"), "{b: [any], ..}"),
    ("{a: {b: {c: num}}}", "{a: {b: {c?: num}}}", None, ("a", "b", "c"), "{a: {b: {..}}}"),
    ("{a: {b: num}, z: num}", "{a: {b: num}}", None, ("z",), "{a: {b: num}, ..}"),
    ("{a: {b: num}}", "{a: {..}}", "{a: {b: num}}", None, "{a: {..}}"),
    ("{in: num}", "{in: truth}", None, ("in",), "{in: any}"),
    ("[{a: num, ..}]", "[{b?: truth, ..}]", "[{a: num, b?: truth, ..}]", None, "[{..}]"),
    ("({a: num} > {..})", "({..} > {a?: num})", "({a: num} > {a?: num})", None, "({..} > {..})"),
]

# texts of two kinds of which the first is no more known than the second, not the other way about
LESS = [
    ("any", "num"), ("any", "truth"), ("any", "(any > any)"), ("any", "[any]"), ("any", "{..}"), ("any", "{}"),
    ("(any > any)", "(num > any)"), ("(any > any)", "(any > num)"), ("(num > any)", "(num > num)"),
    ("(any > num)", "(num > num)"), ("((any > num) > num)", "((num > num) > num)"),
    ("[any]", "[num]"), ("[any]", "[[any]]"), ("[[any]]", "[[num]]"), ("[{..}]", "[{}]"),
    ("{..}", "{}"), ("{..}", "{a: num}"), ("{..}", "{a?: num}"), ("{..}", "{a: num, ..}"), ("{..}", "{a?: num, ..}"),
    ("{a: num, ..}", "{a: num}"), ("{a?: num, ..}", "{a?: num}"), ("{a: any}", "{a: num}"), ("{a?: any}", "{a?: num}"),
    ("{a: any, ..}", "{a: num}"), ("{a: any, ..}", "{a: num, b: num}"), ("{b: num, ..}", "{a: num, b: num}"),
    ("{b: num, ..}", "{a?: num, b: num, ..}"), ("{a: {..}}", "{a: {}}"), ("{a?: {..}}", "{a?: {b: num}}"),
]

# texts of two kinds neither of which is no more known than the other
APART = [
    ("num", "truth"), ("num", "[num]"), ("num", "(num > num)"), ("num", "{}"), ("[any]", "{..}"), ("[num]", "[truth]"),
    ("(any > num)", "(num > any)"), ("(num > num)", "(num > truth)"), ("(num > num)", "(truth > num)"),
    ("{}", "{a: num}"), ("{}", "{a?: num}"), ("{}", "{a: num, ..}"), ("{}", "{a?: any, ..}"), ("{a: num}", "{a?: num}"),
    ("{a: any}", "{a?: num}"), ("{a?: any}", "{a: num}"), ("{a: any}", "{a: num, ..}"), ("{a: num}", "{b: num}"),
    ("{a: num, ..}", "{b: num, ..}"), ("{a: num}", "{a: num, b: num}"), ("{a: num}", "{a: num, b?: num}"),
    ("{a: num, ..}", "{a?: num, ..}"), ("{a: num, b: any}", "{a: any, b: num}"), ("{a: num}", "{a: truth}"),
    ("{a: num, ..}", "{a: truth}"), ("{a: num, ..}", "{}"), ("{a?: num, ..}", "{}"),
]


def all_paths(depth):
    steps = ("in", "out", "inside", "a", "b")
    found = [()]
    for _ in range(depth):
        found = found + [path + (step,) for path in found for step in steps if len(path) < depth]
    return sorted(set(found))


def clash_reckoned(one, other, path):
    """Point 22 word by word, of rows by their fields."""
    if path == ():
        return one != ANY and other != ANY and one[0] != other[0]
    if one[0] != other[0]:
        return False
    step, rest = path[0], path[1:]
    if one[0] == "to" and step in ("in", "out"):
        at = 1 if step == "in" else 2
        return clash_reckoned(one[at], other[at], rest)
    if one[0] == "box" and step == "inside":
        return clash_reckoned(one[1], other[1], rest)
    if one[0] != "row":
        return False
    mine = {name: (mark, kind) for name, mark, kind in one[1]}.get(step, None if one[2] else ("none", None))
    yours = {name: (mark, kind) for name, mark, kind in other[1]}.get(step, None if other[2] else ("none", None))
    if mine is None or yours is None:
        return False
    if mine[0] != yours[0]:
        return rest == ()
    return mine[0] != "none" and clash_reckoned(mine[1], yours[1], rest)


class KnowsLessTest(unittest.TestCase):
    def test_the_unknown_kind_than_each(self):
        for kind in POOL:
            self.assertIs(knows_less(ANY, kind), True, kind)
            self.assertIs(knows_less(kind, ANY), kind == ANY, kind)

    def test_each_pair_of_heads(self):
        for one in HEADS:
            for other in HEADS:
                self.assertIs(knows_less(one, other), one == other, (one, other))

    def test_less(self):
        for one, other in LESS:
            self.assertIs(knows_less(kind_read(one), kind_read(other)), True, (one, other))
            self.assertIs(knows_less(kind_read(other), kind_read(one)), False, (other, one))

    def test_apart(self):
        for one, other in APART:
            self.assertIs(knows_less(kind_read(one), kind_read(other)), False, (one, other))
            self.assertIs(knows_less(kind_read(other), kind_read(one)), False, (other, one))

    def test_each_kind_is_no_more_known_than_itself(self):
        for kind in POOL + [kind for kind, parts in EDGES]:
            self.assertIs(knows_less(kind, kind), True, kind)

    def test_each_pair_against_small_steps(self):
        less = 0
        for one in POOL:
            for other in POOL:
                self.assertIs(knows_less(one, other), one in BELOW[other], (one, other))
                less += one in BELOW[other]
        self.assertGreater(less, 500)

    def test_entries_of_each_sort_on_either_side(self):
        # the rows tell a name of their own too, so that an entry may be none or free beside others
        entries = {"must": [must("b")], "may": [may("b")], "out": []}
        true = {("must", "must"), ("may", "may")}
        for one, first in entries.items():
            for other, second in entries.items():
                closed = (row(must("a"), *first), row(must("a"), *second))
                opened = (open_row(must("a"), *first), open_row(must("a"), *second))
                same = (one, other) in true or one == other
                self.assertIs(knows_less(*closed), same, (one, other))
                self.assertIs(knows_less(*opened), same or one == "out", (one, other))
                self.assertIs(knows_less(opened[0], closed[1]), same or one == "out", (one, other))
                self.assertIs(knows_less(closed[0], opened[1]), False, (one, other))


class MetTest(unittest.TestCase):
    def test_pairs_either_way_about(self):
        for one, other, meet, clash, join in PAIRS:
            wanted = None if meet is None else kind_read(meet)
            self.assertEqual(met(kind_read(one), kind_read(other)), wanted, (one, other))
            self.assertEqual(met(kind_read(other), kind_read(one)), wanted, (other, one))

    def test_both_are_no_more_known_than_what_they_meet_in_and_nothing_less_will_do(self):
        found = 0
        for one in POOL:
            for other in POOL:
                kind = met(one, other)
                if kind is None:
                    continue
                found += 1
                below = all_below(kind)
                self.assertTrue(one in below and other in below, (one, other))
                for less in below - {kind}:
                    self.assertFalse(knows_less(one, less) and knows_less(other, less), (one, other, less))
        self.assertGreater(found, 1000)

    def test_what_both_are_no_more_known_than_is_no_less_known_than_where_they_meet(self):
        for kind in POOL:
            below = sorted(BELOW[kind], key=repr)
            for one in below:
                for other in below:
                    meet = met(one, other)
                    self.assertIsNotNone(meet, (one, other))
                    self.assertTrue(knows_less(meet, kind), (one, other, kind))

    def test_none_just_where_they_clash(self):
        for one in POOL:
            for other in POOL:
                self.assertEqual(met(one, other) is None, first_clash(one, other) is not None, (one, other))

    def test_the_truth_of_an_open_row_is_a_truth(self):
        self.assertIs(met(open_row(), open_row(must("a")))[2], True)
        self.assertIs(met(open_row(), row())[2], False)
        self.assertIs(met(row(), open_row())[2], False)

    def test_names_come_in_order(self):
        one = open_row(must("b"), must("d"))
        other = open_row(must("a"), must("c"), must("e"))
        self.assertEqual(met(one, other), open_row(*[must(name) for name in "abcde"]))
        self.assertEqual(met(other, one), open_row(*[must(name) for name in "abcde"]))

    def test_more_than_forty_parts(self):
        one = open_row(*[must(name) for name in names(60)[:30]])
        other = open_row(*[may(name, TRUTH) for name in names(60)[30:]])
        kind = met(one, other)
        self.assertEqual(kind, open_row(*one[1], *other[1]))
        with self.assertRaises(NoKind):
            parts_in(kind)


class ClashTest(unittest.TestCase):
    def test_first_clash_either_way_about(self):
        for one, other, meet, clash, join in PAIRS:
            self.assertEqual(first_clash(kind_read(one), kind_read(other)), clash, (one, other))
            self.assertEqual(first_clash(kind_read(other), kind_read(one)), clash, (other, one))

    def test_they_clash_at_the_first_clash_and_nowhere_where_there_is_none(self):
        paths = all_paths(3)
        clashing = 0
        for one in POOL:
            for other in POOL:
                first = first_clash(one, other)
                if first is None:
                    for path in paths[::7]:
                        self.assertIs(clashes(one, other, path), False, (one, other, path))
                else:
                    clashing += 1
                    self.assertIs(clashes(one, other, first), True, (one, other, first))
        self.assertGreater(clashing, 1000)

    def test_each_short_path_against_the_words_of_the_point(self):
        paths = all_paths(2)
        found = 0
        for one in POOL[::2]:
            for other in POOL[::3]:
                for path in paths:
                    wanted = clash_reckoned(one, other, path)
                    self.assertIs(clashes(one, other, path), wanted, (one, other, path))
                    found += wanted
        self.assertGreater(found, 300)

    def test_no_clash_ahead_of_the_first_one(self):
        order = {"in": 0, "out": 1}
        for one in POOL:
            for other in POOL:
                first = first_clash(one, other)
                found = [path for path in all_paths(2) if clash_reckoned(one, other, path)]
                if first is not None and len(first) <= 2:
                    ahead = min(found, key=lambda path: [(order.get(step, 0), step) for step in path])
                    self.assertEqual(first, ahead, (one, other))

    def test_a_later_clash(self):
        one = kind_read("((num > num) > {a: num, b?: num, c: [num]})")
        other = kind_read("((truth > truth) > {a: truth, b: num, c: [truth]})")
        self.assertEqual(first_clash(one, other), ("in", "in"))
        for path in (("in", "in"), ("in", "out"), ("out", "a"), ("out", "b"), ("out", "c", "inside")):
            self.assertIs(clashes(one, other, path), True, path)
            self.assertIs(clashes(other, one, path), True, path)
        for path in ((), ("in",), ("out",), ("out", "c"), ("in", "in", "in"), ("out", "b", "a"), ("out", "d"),
                     ("inside",), ("a",), ("out", "c", "inside", "inside"), ("out", "out"), ("c", "inside")):
            self.assertIs(clashes(one, other, path), False, path)
            self.assertIs(clashes(other, one, path), False, path)

    def test_any_tuple_of_texts(self):
        steps = ("", " ", "A", "a?", "IN", "any", "free", "none", "must", "abcdefghij", "\u00e9", "in", "inside", "out")
        kinds = [NUM, to(NUM, NUM), box(NUM), row(), open_row(), row(must("a")), open_row(may("a"))]
        for one in kinds:
            for step in steps:
                for path in ((step,), (step, step), ("a", step), (step, "a"), ("in", step), ("inside", step)):
                    self.assertIs(clashes(one, one, path), False, (one, path))
                    self.assertIs(clashes(one, ANY, path), False, (one, path))
                    self.assertIs(clashes(ANY, one, path), False, (one, path))
        self.assertIs(clashes(box(NUM), box(TRUTH), ("inside",) * 5000), False)
        self.assertIs(clashes(boxes(7), boxes(7, TRUTH), ("inside",) * 7), True)
        self.assertIs(clashes(boxes(7), boxes(7, TRUTH), ("inside",) * 6), False)
        self.assertIs(clashes(boxes(7), boxes(7, TRUTH), ("inside",) * 8), False)

    def test_names_of_rows_that_are_called_like_steps(self):
        one = row(must("in"), must("inside"), must("out"))
        other = row(must("in", TRUTH), may("inside"))
        for step in ("in", "inside", "out"):
            self.assertIs(clashes(one, other, (step,)), True, step)
        self.assertEqual(first_clash(one, other), ("in",))
        function = to(TRUTH, TRUTH)
        self.assertEqual(first_clash(one, function), ())
        self.assertIs(clashes(one, function, ("in",)), False)
        self.assertIs(clashes(one, function, ()), True)

    def test_entries_of_each_sort(self):
        entries = {"must": row(must("a")), "may": row(may("a")), "none": row(), "free": open_row()}
        for one in entries:
            for other in entries:
                wanted = one != other and "free" not in (one, other)
                self.assertIs(clashes(entries[one], entries[other], ("a",)), wanted, (one, other))
                self.assertEqual(first_clash(entries[one], entries[other]), ("a",) if wanted else None)


class JoinedTest(unittest.TestCase):
    def test_pairs_either_way_about(self):
        for one, other, meet, clash, join in PAIRS:
            self.assertEqual(joined(kind_read(one), kind_read(other)), kind_read(join), (one, other))
            self.assertEqual(joined(kind_read(other), kind_read(one)), kind_read(join), (other, one))

    def test_each_pair_of_heads(self):
        for one in HEADS + [ANY]:
            for other in HEADS + [ANY]:
                self.assertEqual(joined(one, other), one if one == other else ANY)

    def test_the_most_known_of_those_that_are_no_more_known_than_either(self):
        for one in POOL:
            for other in POOL:
                kind = joined(one, other)
                both = BELOW[one] & BELOW[other]
                self.assertIn(kind, both, (one, other))
                self.assertLessEqual(both, all_below(kind), (one, other))

    def test_rows_with_one_field_more_or_another_mark(self):
        for one in small_rows():
            for other in small_rows():
                kind = joined(one, other)
                self.assertEqual(kind[0], "row")
                same = [name for name, mark, inner in one[1] if (name, mark) in [told[:2] for told in other[1]]]
                self.assertEqual([name for name, mark, inner in kind[1]], same)
                alike = [told[:2] for told in one[1]] == [told[:2] for told in other[1]]
                self.assertIs(kind[2], one[2] or other[2] or not alike, (one, other))

    def test_at_the_bounds(self):
        self.assertEqual(joined(wide(39), wide(39, TRUTH)), wide(39, ANY))
        self.assertEqual(joined(boxes(7), boxes(7, TRUTH)), boxes(7, ANY))
        self.assertEqual(joined(boxes(7), boxes(6)), boxes(6, ANY))


class KindsTest(unittest.TestCase):
    def test_what_is_no_kind_in_either_place(self):
        calls = (knows_less, met, first_clash, joined, lambda one, other: clashes(one, other, ()),
                 lambda one, other: clashes(one, other, ("a", "b")))
        for thing in BAD + [bad for other in BAD[:40] for bad in held(other)]:
            for call in calls:
                for good in (ANY, NUM, row(must("a"))):
                    with self.subTest(thing=thing), self.assertRaises(NoKind):
                        call(thing, good)
                    with self.subTest(thing=thing), self.assertRaises(NoKind):
                        call(good, thing)
                with self.subTest(thing=thing), self.assertRaises(NoKind):
                    call(thing, thing)

    def test_good_kinds_and_kinds_at_the_bounds_are_taken(self):
        for kind in [kind for kind, text, parts, known, data in GOOD] + [kind for kind, parts in EDGES]:
            self.assertEqual(met(kind, kind), kind)
            self.assertEqual(met(kind, ANY), kind)
            self.assertEqual(met(ANY, kind), kind)
            self.assertEqual(joined(kind, kind), kind)
            self.assertEqual(joined(kind, ANY), ANY)
            self.assertIsNone(first_clash(kind, kind))
            self.assertIs(clashes(kind, kind, ()), False)

    def test_known_kinds_can_be_one_just_where_they_are_the_same(self):
        known = [kind for kind in POOL if is_known(kind)]
        self.assertGreater(len(known), 15)
        for one in known:
            for other in known:
                self.assertEqual(met(one, other), one if one == other else None)
                self.assertIs(knows_less(one, other), one == other)


if __name__ == "__main__":
    unittest.main()
