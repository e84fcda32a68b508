import unittest

from castwright.desk import Desk
from castwright.runs import outcome
from castwright.termnotes import term_read, term_shown
from termsamples import GOOD_TERMS, num, wide_rec

LOOP = "call(fun(x: any, call(name(x), name(x))), fun(x: any, call(name(x), name(x))))"

# texts of terms, what `run` answers, what `kind` answers
RUNS = [
    ("num(5)", "value 5", "num"),
    ("num(0)", "value 0", "num"),
    ("num(-5)", "value -5", "num"),
    ("plus(num(99999999999999999999), num(1))", "value 100000000000000000000", "num"),
    ("truth(yes)", "value yes", "truth"),
    ("truth(no)", "value no", "truth"),
    ("less(num(1), num(2))", "value yes", "truth"),
    ("fun(x: num, name(x))", "value fun", "(num > num)"),
    ("as(fun(x: num, name(x)), any)", "value fun", "any"),
    ("new(num(1))", "value box", "[num]"),
    ("as(new(num(1)), [any])", "value box", "[any]"),
    ("rec()", "value {}", "{}"),
    ("as(rec(), any)", "value {}", "any"),
    ("rec(a: num(1))", "value {a: 1}", "{a: num}"),
    ("rec(a: num(1), b: truth(no))", "value {a: 1, b: no}", "{a: num, b: truth}"),
    ("rec(box: truth(yes), fun: fun(x: any, name(x)), yes: new(rec()))", "value {box: yes, fun: fun, yes: box}",
     "{box: truth, fun: (any > any), yes: [{}]}"),
    ("rec(a: rec(), b: rec(c: rec(d: num(-1)), e: rec()))", "value {a: {}, b: {c: {d: -1}, e: {}}}",
     "{a: {}, b: {c: {d: num}, e: {}}}"),
    ("as(rec(a: num(1)), {a: num, b?: truth, ..})", "value {a: 1}", "{a: num, b?: truth, ..}"),
    ("as(as(num(1), any), truth)", "blame out at 0", "truth"),
    ("plus(num(1), as(truth(no), any))", "blame out at 1", "num"),
    ("rec(a: num(1), b: rec(c: as(as(num(1), any), truth)))", "blame out at 1 0 0", "{a: num, b: {c: truth}}"),
    ("call(as(fun(x: num, name(x)), (any > any)), truth(no))", "blame in at 0 0", "any"),
    ("call(fun(f: (any > any), call(name(f), truth(no))), fun(x: num, name(x)))", "blame in at 1", "any"),
    (LOOP, "spent", "any"),
]

# texts of terms that have no kind, and the path behind `bad use`
BAD_USES = [
    ("name(x)", ""),
    ("read(num(1))", " at 0"),
    ("plus(num(1), truth(no))", " at 1"),
    ("fun(x: num, rec(a: num(1), b: if(truth(yes), num(1), name(y))))", " at 0 1 2"),
]

# texts of two terms, and what `serves` answers
SERVES = [
    ("num(1)", "num(2)", "yes"),
    ("num(1)", "truth(no)", "no"),
    ("num(1)", "as(num(1), any)", "yes"),
    ("rec()", "rec(a: num(1))", "no at a"),
    ("rec(a: num(1))", "rec()", "no at a"),
    ("rec()", "as(rec(), {a?: num})", "yes"),
    ("rec(a: rec(b: num(1)))", "rec(a: rec(b: truth(no)))", "no at a b"),
    ("fun(x: num, num(1))", "fun(x: truth, num(1))", "no at in"),
    ("fun(x: num, num(1))", "fun(x: num, truth(no))", "no at out"),
    ("fun(x: {a: num}, num(1))", "fun(x: {a?: num}, num(1))", "no at in a"),
    ("fun(x: {a?: num}, num(1))", "fun(x: {a: num}, num(1))", "yes"),
    ("new(rec(a: num(1)))", "new(rec(a: truth(no)))", "no at inside a"),
    ("new(rec(a: num(1)))", "new(as(rec(), {..}))", "yes"),
    ("fun(x: num, new(rec(a: rec(b: num(1)))))", "fun(x: num, new(rec(a: rec(b: rec()))))", "no at out inside a b"),
    (LOOP, "num(1)", "yes"),
]

# Lines that are none, whatever the desk keeps.
BAD_LINES = [
    "", " ", "  ", "keep", "keep ", "keep a", "keep a ", "keep  a num(1)", "keep a  num(1)", "keep a num(1) ",
    " keep a num(1)", "keep a num(1", "keep a num(01)", "keep a num", "keep a 1", "keep a num(1)num(1)",
    "keep a num(1) num(1)", "keep a nums(1)", "keep a plus(num(1),num(2))", "keep a as(num(1), nums)",
    "keep a fun(X: num, num(1))", "keep A num(1)", "keep a1 num(1)", "keep abcdefghi num(1)", "keep num(1)",
    "keep num(1) a", "keep a b num(1)", "keep a, num(1)", "Keep a num(1)", "kept a num(1)", "keeps a num(1)",
    "keep a num(123456789012345678901)", "keep  num(1)", "keep a rec(b: num(1), a: num(1))",
    "keep a " + term_shown(wide_rec(39))[:-1] + ", zz: num(1))", "keep a " + "new(" * 10 + "rec()" + ")" * 10,
    "drop", "drop ", "drop  a", "drop a ", " drop a", "drop a b", "drop A", "drop a1", "drop abcdefghi", "drop num(1)",
    "show", "show ", "show  a", "show a ", "show a a", "show A", "show a?", "shows a",
    "names ", " names", "names a", "Names", "name", "names names", "names  ",
    "kind", "kind ", "kind a ", "kind  a", "kind a a", "kind A", "kind num(1)", "kinds a",
    "serves", "serves ", "serves a", "serves a ", "serves  a", "serves a  a", "serves a a ", "serves a a a",
    "serves A a", "serves a A", "serves a, a", "serve a a", " serves a a", "serves  a a",
    "run", "run ", "run a ", "run  a", "run a a", "run A", "run a 100", "runs a", "RUN a",
    "a", "num(1)", "drop-a", "drop,a", "all", "help", "keepa num(1)", "runa", "~", "?",
]


def desk_with(**terms):
    desk = Desk()
    for told, text in terms.items():
        assert desk.say(f"keep {told} {text}") == "kept"
    return desk


class LinesTest(unittest.TestCase):
    def test_run_and_kind(self):
        for text, run, kind in RUNS:
            desk = desk_with(a=text)
            self.assertEqual(desk.say("run a"), run, text)
            self.assertEqual(desk.say("kind a"), kind, text)
            self.assertEqual(desk.say("show a"), text)

    def test_terms_that_have_no_kind(self):
        for text, path in BAD_USES:
            desk = desk_with(a=text, b="num(1)")
            for line in ("kind a", "run a", "serves a a", "serves a b", "serves b a"):
                self.assertEqual(desk.say(line), "bad use" + path, (text, line))
            self.assertEqual(desk.say("show a"), text)
            self.assertEqual(desk.say("drop a"), "dropped")

    def test_of_two_terms_that_have_no_kind_the_first_ones_path(self):
        for one, path in BAD_USES:
            for other, behind in BAD_USES:
                desk = desk_with(x=one, y=other)
                self.assertEqual(desk.say("serves x y"), "bad use" + path)
                self.assertEqual(desk.say("serves y x"), "bad use" + behind)

    def test_serves(self):
        for one, other, answer in SERVES:
            desk = desk_with(one=one, other=other)
            self.assertEqual(desk.say("serves one other"), answer, (one, other))
            self.assertEqual(desk.say("serves one one"), "yes")

    def test_keep_and_show(self):
        desk = Desk()
        for term, text, count in GOOD_TERMS:
            self.assertEqual(desk.say("keep a " + text), "kept")
            self.assertEqual(desk.say("show a"), text)
            self.assertEqual(desk.all_terms(), {"a": term})

    def test_names(self):
        desk = Desk()
        self.assertEqual(desk.say("names"), "none")
        for told, answer in (("b", "b"), ("abcdefgh", "abcdefgh b"), ("a", "a abcdefgh b"), ("ba", "a abcdefgh b ba"),
                             ("aa", "a aa abcdefgh b ba"), ("b", "a aa abcdefgh b ba"), ("z", "a aa abcdefgh b ba z")):
            self.assertEqual(desk.say(f"keep {told} num(1)"), "kept")
            self.assertEqual(desk.say("names"), answer)
        for told, answer in (("aa", "a abcdefgh b ba z"), ("z", "a abcdefgh b ba"), ("a", "abcdefgh b ba")):
            self.assertEqual(desk.say(f"drop {told}"), "dropped")
            self.assertEqual(desk.say("names"), answer)
        for told in ("b", "ba", "abcdefgh"):
            self.assertEqual(desk.say(f"drop {told}"), "dropped")
        self.assertEqual(desk.say("names"), "none")

    def test_names_that_are_words_of_lines(self):
        desk = Desk()
        words = ["drop", "keep", "kind", "names", "none", "run", "serves", "show"]
        for word in words:
            self.assertEqual(desk.say(f"keep {word} num(1)"), "kept")
        self.assertEqual(desk.say("names"), " ".join(words))
        self.assertEqual(desk.say("serves serves serves"), "yes")
        self.assertEqual(desk.say("run run"), "value 1")
        self.assertEqual(desk.say("drop drop"), "dropped")
        self.assertEqual(desk.say("drop drop"), "no such name")

    def test_a_name_kept_twice(self):
        desk = desk_with(a="num(1)", b="num(2)")
        self.assertEqual(desk.say("keep a truth(no)"), "kept")
        self.assertEqual(desk.say("show a"), "truth(no)")
        self.assertEqual(desk.say("kind a"), "truth")
        self.assertEqual(desk.say("names"), "a b")
        self.assertEqual(desk.say("drop a"), "dropped")
        self.assertEqual(desk.say("show a"), "no such name")
        self.assertEqual(desk.say("names"), "b")
        self.assertEqual(desk.say("keep a num(3)"), "kept")
        self.assertEqual(desk.say("run a"), "value 3")

    def test_asking_changes_nothing(self):
        desk = desk_with(a="num(1)", b="truth(no)", c="name(x)")
        kept = desk.all_terms()
        for line in ("names", "show a", "kind a", "kind c", "run a", "run c", "serves a b", "serves a c", "serves c a"):
            first = desk.say(line)
            self.assertEqual(desk.say(line), first)
            self.assertEqual(desk.all_terms(), kept)

    def test_each_run_begins_anew(self):
        counter = "call(fun(b: [num], write(name(b), plus(read(name(b)), num(1)))), new(num(0)))"
        desk = desk_with(a=counter)
        self.assertEqual([desk.say("run a") for _ in range(3)], ["value 1"] * 3)

    def test_a_fuel_of_a_hundred(self):
        function = "fun(x: num, plus(plus(plus(plus(name(x), num(1)), num(1)), num(1)), num(1)))"
        calls = ", ".join(f"{told}: call(name(f), num(0))" for told in "abcdefgh")
        desk = Desk()
        for more, answer in (("", "value {" + ", ".join(f"{told}: 4" for told in "abcdefgh") + "}"),
                             (", i: num(1)", "spent")):
            text = f"call(fun(f: any, rec({calls}{more})), {function})"
            self.assertEqual(outcome(term_read(text), 101)[0], "value")
            self.assertEqual(desk.say("keep a " + text), "kept")
            self.assertEqual(desk.say("run a"), answer)

    def test_kinds_beyond_the_bounds_of_what_can_be_handed_in(self):
        wide = "{" + ", ".join(f"a{letter}: num" for letter in "abcdefghijklmnopqrstuvwxyz") + "}"
        desk = desk_with(a=f"fun(x: {wide}, fun(y: {wide}, num(1)))", b=f"fun(x: {wide}, fun(y: {wide}, truth(no)))",
                         c="fun(x: [[[[[[[num]]]]]]], fun(y: num, name(x)))")
        self.assertEqual(desk.say("kind a"), f"({wide} > ({wide} > num))")
        self.assertEqual(desk.say("serves a a"), "yes")
        self.assertEqual(desk.say("serves a b"), "no at out out")
        self.assertEqual(desk.say("kind c"), "([[[[[[[num]]]]]]] > (num > [[[[[[[num]]]]]]]))")
        self.assertEqual(desk.say("serves c c"), "yes")

    def test_a_long_line(self):
        kind = "{" + ", ".join(f"abcdef{one}{other}: any" for one in "abc" for other in "abcdefghijklm") + "}"
        text = f"as(as(as(num(1), any), {kind}), {{a: num, ..}})"
        line = "keep long " + text
        self.assertEqual(len(kind_names(kind)), 39)
        self.assertEqual(Desk().say(line), "kept")
        text = f"fun(x: {kind}, fun(y: {kind}, num(1)))"
        self.assertGreater(len(text), 1000)
        self.assertEqual(desk_with(a=text).say("show a"), text)


def kind_names(text):
    return text.strip("{}").split(", ")


class CannotTest(unittest.TestCase):
    def test_bad_lines(self):
        for desk in (Desk(), desk_with(a="num(1)"), desk_with(a="name(x)", b="rec()")):
            kept = desk.all_terms()
            for line in BAD_LINES:
                self.assertEqual(desk.say(line), "bad line", line)
                self.assertEqual(desk.all_terms(), kept, line)

    def test_no_such_name(self):
        desk = desk_with(a="num(1)", bad="name(x)")
        kept = desk.all_terms()
        for line in ("drop b", "show b", "kind b", "run b", "serves a b", "serves b a", "serves b b", "serves bad b",
                     "serves b bad", "show aa", "drop names", "kind x"):
            self.assertEqual(desk.say(line), "no such name", line)
            self.assertEqual(desk.all_terms(), kept, line)

    def test_a_bad_line_ahead_of_no_such_name_ahead_of_a_bad_use(self):
        desk = desk_with(bad="plus(num(1), truth(no))")
        for line, answer in (("serves b B", "bad line"), ("serves B b", "bad line"), ("serves bad B", "bad line"),
                             ("serves B bad", "bad line"), ("serves b b b", "bad line"), ("serves bad", "bad line"),
                             ("kind b b", "bad line"), ("run b ", "bad line"), ("drop b b", "bad line"),
                             ("serves b bad", "no such name"), ("serves bad b", "no such name"),
                             ("serves bad bad", "bad use at 1"), ("kind bad", "bad use at 1"),
                             ("run bad", "bad use at 1"), ("run b", "no such name"), ("keep B name(x)", "bad line"),
                             ("keep b name(X)", "bad line"), ("keep b name(x)", "kept")):
            self.assertEqual(desk.say(line), answer, line)

    def test_what_cannot_be_done_changes_nothing(self):
        desk = desk_with(a="num(1)", b="name(x)")
        kept = desk.all_terms()
        for line, answer in (("keep a num(01)", "bad line"), ("keep a num(2) ", "bad line"),
                             ("keep A num(2)", "bad line"), ("drop c", "no such name"),
                             ("drop a b", "bad line"), ("run b", "bad use"), ("kind b", "bad use"),
                             ("serves b a", "bad use"), ("serves a c", "no such name")):
            self.assertEqual(desk.say(line), answer, line)
            self.assertEqual(desk.all_terms(), kept, line)
        self.assertEqual(desk.say("show a"), "num(1)")


class OwnTest(unittest.TestCase):
    def test_all_terms(self):
        self.assertEqual(Desk().all_terms(), {})
        desk = desk_with(a="num(1)", b="as(rec(), {..})")
        self.assertIs(type(desk.all_terms()), dict)
        self.assertEqual(desk.all_terms(), {"a": term_read("num(1)"), "b": term_read("as(rec(), {..})")})

    def test_a_changed_dict_changes_nothing_of_the_desk(self):
        desk = desk_with(a="num(1)", b="num(2)")
        told = desk.all_terms()
        told["c"] = num(3)
        told["a"] = num(4)
        told.pop("b")
        self.assertEqual(desk.say("names"), "a b")
        self.assertEqual(desk.say("show a"), "num(1)")
        self.assertEqual(desk.say("show c"), "no such name")
        self.assertEqual(desk.all_terms(), {"a": num(1), "b": num(2)})
        self.assertIsNot(desk.all_terms(), desk.all_terms())
        told.clear()
        self.assertEqual(desk.say("names"), "a b")

    def test_the_desk_changes_no_dict_that_was_told(self):
        desk = desk_with(a="num(1)")
        told = desk.all_terms()
        desk.say("keep b num(2)")
        desk.say("keep a num(3)")
        self.assertEqual(told, {"a": num(1)})
        desk.say("drop a")
        self.assertEqual(told, {"a": num(1)})

    def test_two_desks_share_nothing(self):
        one = desk_with(a="num(1)")
        other = desk_with(b="num(2)")
        self.assertEqual((one.say("names"), other.say("names")), ("a", "b"))
        self.assertEqual(other.say("show a"), "no such name")
        self.assertEqual(one.say("drop a"), "dropped")
        self.assertEqual((one.say("names"), other.say("names"), Desk().say("names")), ("none", "b", "none"))


if __name__ == "__main__":
    unittest.main()
