import re
import unittest

from castwright.errors import NoKind
from castwright.kindnotes import kind_shown
from castwright.kinds import entry_of, is_data, is_known, parts_in
from samples import (ANY, BAD, EDGES, GOOD, NUM, TRUTH, box, boxes, changed, held, may, must, names, nested_ins,
                     nested_outs, nested_rows, open_row, row, to, wide)

CALLS = (parts_in, is_known, is_data, kind_shown)


def straight_within(thing):
    """The things straight within one of a kind's form, or None where it has another form."""
    if type(thing) is not tuple or not thing:
        return None
    if thing in (ANY, NUM, TRUTH):
        return []
    if thing[0] == "box" and len(thing) == 2:
        return [thing[1]]
    if thing[0] == "to" and len(thing) == 3:
        return [thing[1], thing[2]]
    if thing[0] != "row" or len(thing) != 3 or type(thing[1]) is not tuple or type(thing[2]) is not bool:
        return None
    told = []
    for field in thing[1]:
        if type(field) is not tuple or len(field) != 3 or type(field[0]) is not str:
            return None
        if not re.fullmatch("[a-z]{1,8}", field[0]) or field[1] not in ("must", "may"):
            return None
        told.append(field[0])
    if told != sorted(set(told)):
        return None
    return [field[2] for field in thing[1]]


def size_and_depth(thing):
    """How many kinds are in a thing and within one another; (None, None) where it has no kind's form."""
    within = straight_within(thing)
    if within is None:
        return (None, None)
    found = [size_and_depth(part) for part in within]
    if (None, None) in found:
        return (None, None)
    return (1 + sum(size for size, depth in found), 1 + max([depth for size, depth in found], default=0))


class GoodKindsTest(unittest.TestCase):
    def test_parts_in(self):
        for kind, text, parts, known, data in GOOD:
            self.assertEqual(parts_in(kind), parts, text)

    def test_is_known(self):
        for kind, text, parts, known, data in GOOD:
            self.assertIs(is_known(kind), known, text)

    def test_is_data(self):
        for kind, text, parts, known, data in GOOD:
            self.assertIs(is_data(kind), data, text)

    def test_unknown_kinds_and_open_rows_are_seen_wherever_they_stand(self):
        for unknown in (ANY, open_row(), open_row(must("a"))):
            for kind in held(unknown):
                self.assertIs(is_known(kind), False, kind)
        for known in (NUM, TRUTH, row(), row(may("a")), box(NUM)):
            for kind in (box(known), to(known, known), row(must("a", known), may("b", known))):
                self.assertIs(is_known(kind), True, kind)

    def test_functions_and_boxes_are_seen_wherever_they_stand(self):
        for other in (box(NUM), to(NUM, NUM)):
            for kind in (row(must("a", other)), row(may("a", other)), open_row(must("a"), must("b", row(may("c", other))))):
                self.assertIs(is_data(kind), False, kind)
        for data in (ANY, NUM, TRUTH, row(), open_row()):
            self.assertIs(is_data(row(must("a", data), may("b", row(must("c", data))))), True, data)

    def test_the_same_kind_gives_the_same_answer_again(self):
        kind = to(row(must("a", ANY)), box(TRUTH))
        self.assertEqual([parts_in(kind), parts_in(kind)], [5, 5])
        self.assertEqual(kind, ("to", ("row", (("a", "must", ("any",)),), False), ("box", ("truth",))))


class EdgesTest(unittest.TestCase):
    def test_at_the_bounds(self):
        for kind, parts in EDGES:
            self.assertEqual(parts_in(kind), parts)
            for call in CALLS:
                call(kind)

    def test_forty_kinds_and_one_more(self):
        self.assertEqual(parts_in(wide(39)), 40)
        self.assertEqual(parts_in(to(wide(18), box(wide(18)))), 40)
        self.refused(wide(40))
        self.refused(to(wide(18), box(wide(19))))
        self.refused(to(wide(19), wide(19)))

    def test_eight_within_one_another_and_one_more(self):
        for nest in (boxes, nested_rows, nested_ins, nested_outs):
            parts_in(nest(7))
            self.refused(nest(8))
            self.refused(nest(7, row(must("a"))))
            parts_in(nest(7, row()))

    def test_the_deep_one_may_stand_at_any_place(self):
        for kind in held(boxes(7)):
            self.refused(kind)
        self.assertEqual(parts_in(row(must("a"), must("b", boxes(6)), must("c"))), 10)

    def test_names_of_one_and_of_eight_letters(self):
        for name in ("a", "z", "abcdefgh", "zzzzzzzz"):
            self.assertEqual(parts_in(row(must(name))), 2)

    def test_names_of_none_and_of_nine_letters(self):
        for name in ("", "abcdefghi", "a" * 400):
            self.refused(row(must(name)))
            self.refused(open_row(may(name)))

    def test_kinds_far_beyond_the_bounds(self):
        kind = NUM
        for _ in range(7):
            kind = wide(39, kind)
        self.refused(kind)
        self.refused(boxes(5000))

    def refused(self, kind):
        for call in CALLS:
            with self.assertRaises(NoKind):
                call(kind)


class NoKindsTest(unittest.TestCase):
    def test_by_themselves(self):
        for thing in BAD:
            for call in CALLS:
                with self.subTest(call=call.__name__, thing=thing), self.assertRaises(NoKind):
                    call(thing)

    def test_within_good_kinds(self):
        for bad in BAD + ["num", "any", "", True, False]:
            for thing in held(bad):
                for call in CALLS:
                    with self.subTest(call=call.__name__, thing=thing), self.assertRaises(NoKind):
                        call(thing)

    def test_whole_numbers_are_no_truths(self):
        for number in (0, 1):
            with self.assertRaises(NoKind):
                parts_in(("row", (), number))

    def test_small_changes_of_good_kinds(self):
        refused = 0
        taken = 0
        for kind, text, parts, known, data in GOOD:
            for thing in changed(kind):
                if not isinstance(thing, tuple):
                    continue
                size = size_and_depth(thing)[0]
                if size is None:
                    refused += 1
                    for call in CALLS:
                        with self.subTest(call=call.__name__, thing=thing), self.assertRaises(NoKind):
                            call(thing)
                else:
                    taken += 1
                    self.assertEqual(parts_in(thing), size, thing)
        self.assertGreater(refused, 1000)
        self.assertGreater(taken, 200)


class EntriesTest(unittest.TestCase):
    def test_a_name_that_is_told(self):
        kind = row(must("a"), may("b", TRUTH), must("c", box(ANY)))
        self.assertEqual(entry_of(kind, "a"), ("must", NUM))
        self.assertEqual(entry_of(kind, "b"), ("may", TRUTH))
        self.assertEqual(entry_of(kind, "c"), ("must", box(ANY)))

    def test_a_name_that_is_told_in_an_open_row(self):
        kind = open_row(may("a"), must("b", TRUTH))
        self.assertEqual(entry_of(kind, "a"), ("may", NUM))
        self.assertEqual(entry_of(kind, "b"), ("must", TRUTH))

    def test_a_name_that_is_not_told(self):
        for name in ("a", "bb", "z", "abcdefgh"):
            self.assertEqual(entry_of(row(), name), ("none",))
            self.assertEqual(entry_of(open_row(), name), ("free",))
            self.assertEqual(entry_of(row(must("b"), may("c")), name), ("none",))
            self.assertEqual(entry_of(open_row(must("b"), may("c")), name), ("free",))

    def test_names_of_rows_further_in_are_not_the_rows_own(self):
        inner = row(must("b", TRUTH))
        self.assertEqual(entry_of(row(must("a", inner)), "b"), ("none",))
        self.assertEqual(entry_of(open_row(must("a", inner)), "b"), ("free",))
        self.assertEqual(entry_of(row(must("a", inner)), "a"), ("must", inner))

    def test_the_first_and_the_last_of_many(self):
        told = names(39)
        for name in (told[0], told[19], told[38]):
            self.assertEqual(entry_of(wide(39, TRUTH), name), ("must", TRUTH))
        self.assertEqual(entry_of(wide(39), "zz"), ("none",))


if __name__ == "__main__":
    unittest.main()
