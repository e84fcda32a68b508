import importlib
import inspect
import unittest

from castwright import errors
from castwright.desk import Desk

# The calls of each module, with their arguments.
CALLS = {
    "kinds": {"parts_in": "kind", "entry_of": "row name", "is_known": "kind", "is_data": "kind"},
    "kindnotes": {"kind_shown": "kind", "kind_read": "text"},
    "known": {"knows_less": "one other", "met": "one other", "first_clash": "one other", "clashes": "one other path",
              "joined": "one other"},
    "serving": {"serves": "one other", "first_lack": "one other", "either": "one other"},
    "terms": {"terms_in": "term", "judged": "term"},
    "termnotes": {"term_shown": "term", "term_read": "text"},
    "runs": {"outcome": "term fuel"},
    "data": {"fits": "value kind", "misfit": "value kind", "sample_of": "kind", "parting_value": "one other"},
    "forgets": {"forgettings": "term", "forgotten": "term", "less_term": "one other", "kinds_told": "term"},
}


class InterfaceTest(unittest.TestCase):
    def test_calls_and_their_arguments(self):
        for module, calls in CALLS.items():
            for name, arguments in calls.items():
                call = getattr(importlib.import_module("castwright." + module), name)
                parameters = inspect.signature(call).parameters.values()
                self.assertEqual([part.name for part in parameters], arguments.split(), name)
                self.assertTrue(all(part.default is part.empty for part in parameters), name)

    def test_the_desk(self):
        self.assertEqual(list(inspect.signature(Desk).parameters), [])
        self.assertEqual(list(inspect.signature(Desk.say).parameters), ["self", "line"])
        self.assertEqual(list(inspect.signature(Desk.all_terms).parameters), ["self"])

    def test_the_errors(self):
        for name in ("NoKind", "NoTerm", "BadUse", "NoValue", "NoNumber", "BadNote"):
            self.assertEqual(getattr(errors, name).__bases__, (errors.CastError,))
        self.assertEqual(errors.CastError.__bases__, (ValueError,))


if __name__ == "__main__":
    unittest.main()
