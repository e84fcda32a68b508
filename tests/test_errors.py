import unittest

from castwright.errors import BadNote, BadUse, CastError, NoKind, NoNumber, NoTerm, NoValue

REFUSALS = (NoKind, NoTerm, BadUse, NoValue, NoNumber, BadNote)


class ErrorsTest(unittest.TestCase):
    def test_any_refusal_is_a_value_error(self):
        self.assertTrue(issubclass(CastError, ValueError))

    def test_each_stands_under_cast_error(self):
        for refusal in REFUSALS:
            self.assertTrue(issubclass(refusal, CastError), refusal)
            self.assertTrue(issubclass(refusal, ValueError), refusal)
            self.assertIsNot(refusal, CastError)

    def test_none_stands_under_another(self):
        for one in REFUSALS:
            for other in REFUSALS:
                self.assertEqual(issubclass(one, other), one is other, (one, other))

    def test_each_is_taken_by_its_own_name_and_by_cast_error(self):
        for refusal in REFUSALS:
            for taken in (refusal, CastError, ValueError):
                with self.assertRaises(taken):
                    raise refusal((0,))

    def test_the_others_are_made_with_words(self):
        for refusal in (CastError, NoKind, NoTerm, NoValue, NoNumber, BadNote):
            self.assertEqual(str(refusal("words")), "words")

    def test_bad_use_has_its_path(self):
        for path in ((), (0,), (0, 1, 2), (1, 0)):
            self.assertEqual(BadUse(path).path, path)

    def test_bad_use_has_its_path_when_taken(self):
        with self.assertRaises(BadUse) as taken:
            raise BadUse((2, 0))
        self.assertEqual(taken.exception.path, (2, 0))

    def test_two_bad_uses_have_each_their_own_path(self):
        one = BadUse((0,))
        other = BadUse((1,))
        self.assertEqual((one.path, other.path), ((0,), (1,)))


if __name__ == "__main__":
    unittest.main()
