import unittest

from castwright.errors import BadNote, NoKind
from castwright.kindnotes import kind_read, kind_shown
from samples import (ANY, BAD, EDGES, GOOD, NUM, TRUTH, box, boxes, held, may, must, names, nested_outs, open_row,
                     row, to, wide)

SIGNS = [chr(code) for code in range(32, 127) if chr(code) != "%"]

BAD_TEXTS = [
    "", " ", "  ", "a", "an", "anyany", "any any", "nums", "numb", "Num", "NUM", "fun", "box", "to", "row",
    " num", "num ", "\nnum", "num\n", "num,", "num;", "5", "none", "free", "()", "(", ")", "[", "]", "{", "}",
    "(num)", "(num >)", "(> num)", "( > )", "(num > )", "( > num)", "(num > truth", "num > truth)", "num > truth",
    "(num>truth)", "(num >truth)", "(num> truth)", "(num  > truth)", "(num >  truth)", "( num > truth)",
    "(num > truth )", "(num, truth)", "(num truth)", "(num < truth)", "(num -> truth)", "(num > truth > num)",
    "(num > truth))", "((num > truth)", "((num > truth))", "(num > truth]", "[num > truth]",
    "[]", "[ ]", "[num", "num]", "[num]]", "[[num]", "[ num]", "[num ]", "[num, num]", "[num num]", "[num)", "(num]",
    "[..]", "[num, ..]", "[a: num]",
    "{ }", "{", "}", "{}}", "{{}", "{{}}", "{num}", "{a}", "{a:}", "{a: }", "{a num}", "{a:num}", "{a : num}",
    "{a:  num}", "{ a: num}", "{a: num }", "{a: num", "a: num}", "a: num", "{: num}", "{?: num}", "{a ?: num}",
    "{a? : num}", "{a?num}", "{a? num}", "{a??: num}", "{?a: num}", "{a: num?}", "{a: ?num}", "{a=num}", "{a; num}",
    "{a: num,}", "{a: num, }", "{, a: num}", "{,}", "{a: num b: num}", "{a: num,b: num}", "{a: num , b: num}",
    "{a: num,  b: num}", "{a: num; b: num}", "{a: num, b}", "{a: num, num}", "{a: num, b: }", "{a: num]", "[a: num}",
    "..", "{.}", "{...}", "{. .}", "{ ..}", "{.. }", "{..", "..}", "{..,}", "{.., }", "{, ..}", "{.., ..}",
    "{.., a: num}", "{a: num..}", "{a: num ..}", "{a: num,..}", "{a: num,  ..}", "{a: num, ..", "{a: num, .}",
    "{a: num, ...}", "{a: num, .. }", "{a: num, .., ..}", "{a: num, .., b: num}", "{a: num, ..}}", "{a: ..}",
    "{a: num, a: num}", "{a: num, a?: truth}", "{a?: num, a?: num}", "{a: num, b: num, a: num}",
    "{a: num, b: num, b: num, ..}", "{b: num, a: num}", "{b?: num, a: num, ..}", "{aa: num, a: num}",
    "{a: num, c: num, b: num}", "{A: num}", "{aB: num}", "{a1: num}", "{1: num}", "{a_b: num}", "{a b: num}",
    "{abcdefghi: num}", "{abcdefghi?: num}", "{abcdefghi: num, ..}", "{a: {b: num, a: num}}", "[{a: num, a: num}]",
    "({b: num, a: num} > num)", "{a: num} ", " {a: num}", "{a: (num)}", "{a: [num}", "{a: num}{}", "num{}",
    "any..", "(any, ..)", "('num',)", "(\"num\",)", "\u00e9", "{\u00e9: num}", "{\u03b1: num}",
    "{a:\u00a0num}", "{a:\tnum}", "%", "num%", "{a%: num}", "`num`", "~",
]


class ShownTest(unittest.TestCase):
    def test_each_form(self):
        for kind, text, parts, known, data in GOOD:
            self.assertEqual(kind_shown(kind), text)

    def test_the_forms_of_the_document(self):
        self.assertEqual(kind_shown(ANY), "any")
        self.assertEqual(kind_shown(NUM), "num")
        self.assertEqual(kind_shown(TRUTH), "truth")
        self.assertEqual(kind_shown(to(NUM, TRUTH)), "(num > truth)")
        self.assertEqual(kind_shown(box(NUM)), "[num]")
        self.assertEqual(kind_shown(row(must("a"), may("b", TRUTH))), "{a: num, b?: truth}")
        self.assertEqual(kind_shown(open_row(must("a"))), "{a: num, ..}")
        self.assertEqual(kind_shown(row()), "{}")
        self.assertEqual(kind_shown(open_row()), "{..}")

    def test_what_is_no_kind(self):
        for thing in BAD:
            with self.subTest(thing=thing), self.assertRaises(NoKind):
                kind_shown(thing)


class ReadTest(unittest.TestCase):
    def test_each_form(self):
        for kind, text, parts, known, data in GOOD:
            self.assertEqual(kind_read(text), kind, text)

    def test_truths_of_rows_are_truths(self):
        self.assertIs(kind_read("{}")[2], False)
        self.assertIs(kind_read("{..}")[2], True)
        self.assertIs(kind_read("{a: num}")[2], False)
        self.assertIs(kind_read("{a: num, ..}")[2], True)

    def test_written_and_read_again(self):
        kinds = [kind for kind, text, parts, known, data in GOOD] + [kind for kind, parts in EDGES]
        for kind in list(kinds):
            kinds.extend(outer for outer in held(kind) if outer not in BAD)
        kinds = [kind for kind in kinds if is_taken(kind)]
        self.assertGreater(len(kinds), 200)
        for kind in kinds:
            self.assertEqual(kind_read(kind_shown(kind)), kind)

    def test_a_long_text_is_not_refused_for_its_length(self):
        kind = row(*[may(name + "cdefgh", TRUTH) for name in names(39)])
        text = kind_shown(kind)
        self.assertGreater(len(text), 400)
        self.assertEqual(kind_read(text), kind)

    def test_texts_at_the_bounds(self):
        self.assertEqual(kind_read("[" * 7 + "num" + "]" * 7), boxes(7))
        self.assertEqual(kind_read("(num > " * 7 + "num" + ")" * 7), nested_outs(7))
        self.assertEqual(kind_read("{" + ", ".join(name + ": num" for name in names(39)) + "}"), wide(39))
        self.assertEqual(kind_read("{abcdefgh: num}"), row(must("abcdefgh")))

    def test_texts_beyond_the_bounds(self):
        self.refused("[" * 8 + "num" + "]" * 8)
        self.refused("(num > " * 8 + "num" + ")" * 8)
        self.refused("(" * 8 + "num" + " > num)" * 8)
        self.refused("{a: " * 8 + "num" + "}" * 8)
        self.refused("[" * 8 + "{}" + "]" * 8)
        self.refused("{" + ", ".join(name + ": num" for name in names(40)) + "}")
        self.refused("{" + ", ".join(name + ": num" for name in names(40)) + ", ..}")
        self.refused("[{" + ", ".join(name + ": num" for name in names(39)) + "}]")

    def test_many_brackets(self):
        for sign in ("[", "(", "{", "{a: ", "(num > "):
            self.refused(sign * 400)
        self.refused("[" * 198 + "num" + "]" * 198)
        self.refused("[" * 5000)

    def test_texts_that_write_no_kind(self):
        for text in BAD_TEXTS:
            self.refused(text)

    def test_one_sign_left_out_put_in_or_exchanged(self):
        refused = 0
        for kind, text, parts, known, data in GOOD:
            for other in texts_nearby(text):
                refused += self.is_refused_or_shown(other)
        self.assertGreater(refused, 20000)

    def test_text_and_kind_are_one_to_one(self):
        pieces = ["any", "num", "(", " > ", ")", "[", "]", "{", "}", "..", ", ", "a", "b", "?", ": ", " "]
        texts = [""]
        for _ in range(4):
            texts = texts + [text + piece for text in texts for piece in pieces if len(text) < 12]
            texts = sorted(set(texts))
        for text in texts:
            self.is_refused_or_shown(text)
        self.assertGreater(len(texts), 10000)

    def refused(self, text):
        with self.subTest(text=text), self.assertRaises(BadNote):
            kind_read(text)

    def is_refused_or_shown(self, text):
        """A text that is read is the very text as which its kind is written."""
        try:
            kind = kind_read(text)
        except BadNote:
            return True
        self.assertEqual(kind_shown(kind), text)
        return False


def is_taken(kind):
    try:
        kind_shown(kind)
    except NoKind:
        return False
    return True


def texts_nearby(text):
    for at in range(len(text) + 1):
        yield text[:at] + text[at + 1:]
        for sign in SIGNS:
            yield text[:at] + sign + text[at:]
            yield text[:at] + sign + text[at + 1:]


if __name__ == "__main__":
    unittest.main()
