"""The interface: each name stands in its own file, with its arguments as written."""

import importlib
import inspect
import unittest

SIGNATURES = {
    "lines": {
        "is_line": "(thing)",
        "found": "(line, day)",
        "painted": "(line, what, *, low=0, high=None)",
        "within": "(line, *, low=0, high=None)",
        "beside": "(one, other)",
        "bare": "(line, *, low=0, high=None)",
    },
    "plans": {
        "is_plan": "(thing)",
        "is_step": "(plan, thing)",
        "is_deed": "(plan, thing)",
        "are_deeds": "(plan, thing)",
    },
    "painting": {"painting": "(steps)"},
    "story": {
        "line_of": "(deeds, table, key, *, known=None)",
        "rows_at": "(deeds, table, day, *, known=None)",
        "known_line": "(deeds, table, key, day)",
    },
    "painters": {
        "told_by": "(deeds, table, key, day, *, known=None)",
        "painters": "(deeds, table, key, *, known=None)",
    },
    "settling": {"settled": "(deeds, day)"},
    "references": {"broken": "(plan, deeds, *, known=None)"},
    "patches": {
        "patch": "(deeds, *, early=None, late=None)",
        "followed": "(one, other)",
        "undone": "(one)",
    },
    "shortest": {"shortest": "(table, key, before, after)"},
    "questions": {"is_question": "(plan, thing)", "columns_of": "(plan, question)"},
    "answers": {"answer": "(plan, deeds, question, day, *, known=None)"},
    "spans": {"spans": "(plan, deeds, question, *, known=None)", "knowns": "(plan, deeds, question, day)"},
}


class Interface(unittest.TestCase):
    def test_functions(self):
        for file, functions in SIGNATURES.items():
            module = importlib.import_module("bothtimes." + file)
            for name, signature in functions.items():
                made = getattr(module, name)
                self.assertEqual(made.__module__, module.__name__, name)
                self.assertEqual(str(inspect.signature(made)), signature, name)


if __name__ == "__main__":
    unittest.main()
