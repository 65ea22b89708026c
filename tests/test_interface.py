"""The interface: files, names, parameters and their defaults."""

import ast
import importlib
import inspect
import pathlib
import unittest

PACKAGE = pathlib.Path(__file__).resolve().parent.parent / "growntexts"

# Of each module: functions and classes with their parameters.
CALLS = {
    "settings": {"Setting": "source head='' tail='' is_turned=False"},
    "programs": {"Program": "signs letters begin ways ends"},
    "writing": {"stand": "program text", "row_text": "row texts", "write": "program text"},
    "shaping": {
        "turned": "program",
        "skipping": "program letter",
        "recoded": "program table",
        "respelt": "program table",
        "behind": "program text",
        "joined": "p q",
    },
    "shapes": {"Shape": "letters rooms ends", "within": "program shape"},
    "alike": {"alike": "p q", "parting": "p q"},
    "papers": {"figures": "p q text", "paper": "p q", "paper_holds": "p q value"},
    "equations": {
        "leads": "program mode",
        "always_same": "program mode one other",
        "first_unlike": "program mode one other",
        "same_rows": "program mode",
        "around": "program mode",
    },
    "relations": {
        "counts": "program text",
        "holds": "program mode relation",
        "breaking": "program mode relation",
        "relations": "program mode",
    },
    "letters": {
        "idle": "program",
        "idle_break": "program letter",
        "swapping": "program",
        "swap_break": "program one other",
    },
    "growth": {"longest": "program many", "shortest": "program many", "greatest": "program", "slope": "program"},
    "reaching": {"reaches": "program text", "first_input": "program text"},
    "filling": {"filled": "program places texts", "fillings": "program places examples longest"},
    "live": {"Live": "program"},
    "desk": {"Desk": ""},
}

# Of each class: methods with their parameters.
METHODS = {
    ("settings", "Setting"): {"over": "self text", "read": "text", "__eq__": "self other", "__str__": "self"},
    ("programs", "Program"): {"way": "self mode letter", "read": "text", "__eq__": "self other", "__str__": "self"},
    ("shapes", "Shape"): {"lets": "self text"},
    ("live", "Live"): {
        "take": "self letter",
        "several": "self letters",
        "change": "self program",
        "undo": "self",
        "within": "self work",
        "__len__": "self",
    },
    ("desk", "Desk"): {"say": "self command"},
}


def module_of(name):
    return importlib.import_module("growntexts." + name)


def parameters_of(value):
    rows = []
    for name, parameter in inspect.signature(value).parameters.items():
        has_default = parameter.default is not inspect.Parameter.empty
        rows.append(f"{name}={parameter.default!r}" if has_default else name)
    return " ".join(rows)


class InterfaceTest(unittest.TestCase):
    def test_functions_and_classes(self):
        for module, calls in CALLS.items():
            for name, parameters in calls.items():
                value = getattr(module_of(module), name)
                self.assertEqual(parameters_of(value), parameters, name)
                self.assertEqual(value.__module__, "growntexts." + module)

    def test_methods_stand_in_their_classes(self):
        for (module, name), methods in METHODS.items():
            value = getattr(module_of(module), name)
            for method, parameters in methods.items():
                self.assertIn(method, vars(value))
                self.assertEqual(parameters_of(getattr(value, method)), parameters, method)

    def test_read_is_a_class_method(self):
        for (module, name), methods in METHODS.items():
            if "read" in methods:
                self.assertIsInstance(vars(getattr(module_of(module), name))["read"], classmethod)

    def test_properties(self):
        for name in ("program", "spot", "texts", "heard", "shown"):
            self.assertIsInstance(vars(module_of("live").Live)[name], property)

    def test_the_package_is_empty_but_for_a_docstring(self):
        tree = ast.parse((PACKAGE / "__init__.py").read_text(encoding="ascii"))
        self.assertEqual(len(tree.body), 1)
        self.assertTrue(ast.get_docstring(tree))


if __name__ == "__main__":
    unittest.main()
