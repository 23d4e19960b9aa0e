"""The interface: each name stands in its own file, with its arguments as written."""

import importlib
import inspect
import unittest

SIGNATURES = {
    "lines": {
        "is_line": "(thing)",
        "found": "(line, day)",
        "painted": "(line, what, *, low=0, high=None)",
        "within": "(line, *, low=0, high=None)",
        "beside": "(one, other)",
        "bare": "(line, *, low=0, high=None)",
    },
    "plans": {
        "is_plan": "(thing)",
        "is_step": "(plan, thing)",
        "is_deed": "(plan, thing)",
        "are_deeds": "(plan, thing)",
    },
    "painting": {"painting": "(steps)"},
    "story": {
        "line_of": "(deeds, table, key, *, known=None)",
        "rows_at": "(deeds, table, day, *, known=None)",
        "known_line": "(deeds, table, key, day)",
    },
    "painters": {
        "told_by": "(deeds, table, key, day, *, known=None)",
        "painters": "(deeds, table, key, *, known=None)",
    },
    "settling": {"settled": "(deeds, day)"},
    "references": {"broken": "(plan, deeds, *, known=None)"},
    "patches": {
        "patch": "(deeds, *, early=None, late=None)",
        "followed": "(one, other)",
        "undone": "(one)",
    },
    "shortest": {"shortest": "(table, key, before, after)"},
    "questions": {"is_question": "(plan, thing)", "columns_of": "(plan, question)"},
    "answers": {"answer": "(plan, deeds, question, day, *, known=None)"},
    "spans": {"spans": "(plan, deeds, question, *, known=None)", "knowns": "(plan, deeds, question, day)"},
    "merging": {"merged": "(one, other)"},
    "counts": {
        "counted": "(spans)",
        "fullest": "(spans)",
        "empty": "(spans, *, low=0, high=None)",
        "lasting": "(spans, *, low=0, high=None)",
    },
    "logs": {
        "log_text": "(deeds, *, words=('on', 'put', 'cut', 'end'))",
        "come_up": "(plan, text, *, words=('on', 'put', 'cut', 'end'), most=60)",
    },
    "showing": {"show_plan": "(plan)", "show_question": "(question)"},
    "reading": {"read_plan": "(text)", "read_question": "(plan, text)"},
}
METHODS = {
    ("store", "Store"): {
        "__init__": "(self, plan, *, most=60)",
        "tell": "(self, day, steps)",
        "restore": "(self, day, table, key, *, known, low=0, high=None)",
        "correct": "(self, day, patch)",
        "tell_all": "(self, deeds, *, each=None)",
        "deeds": "(self)",
        "line": "(self, table, key, *, known=None)",
        "rows": "(self, table, day, *, known=None, only=None)",
        "keep": "(self, name, question)",
        "drop": "(self, name)",
        "view": "(self, name)",
        "touched": "(self, name)",
        "views": "(self)",
        "__len__": "(self)",
        "__str__": "(self)",
        "__repr__": "(self)",
        "__eq__": "(self, other)",
    },
    ("desk", "Desk"): {"__init__": "(self, text)", "say": "(self, line)"},
}


class Interface(unittest.TestCase):
    def test_functions(self):
        for file, functions in SIGNATURES.items():
            module = importlib.import_module("bothtimes." + file)
            for name, signature in functions.items():
                made = getattr(module, name)
                self.assertEqual(made.__module__, module.__name__, name)
                self.assertEqual(str(inspect.signature(made)), signature, name)

    def test_classes(self):
        for (file, name), methods in METHODS.items():
            module = importlib.import_module("bothtimes." + file)
            made = getattr(module, name)
            self.assertEqual(made.__module__, module.__name__, name)
            for method, signature in methods.items():
                self.assertEqual(str(inspect.signature(vars(made)[method])), signature, (name, method))


if __name__ == "__main__":
    unittest.main()
