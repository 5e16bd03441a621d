"""The interface: names, arguments and places of definition are as written."""

import importlib
import inspect
import types
import unittest

FUNCTIONS = {
    "base.words": {
        "is_integer": ["value"], "is_count": ["value"], "is_name": ["value"], "is_names": ["value"],
    },
    "base.forms": {
        "mirrored_scheme": ["scheme"], "renamed_scheme": ["scheme", "sorts", "forms"],
    },
    "base.pictures": {
        "are_apart": ["one", "other"], "is_sound_picture": ["scheme", "value"], "spots_of": ["scheme", "picture"],
        "spot_over": ["scheme", "picture", "spots"],
    },
}
CLASSES = {
    "base.forms": {
        "Form": {
            "__init__": ["called", "sort", "children"], "called": property, "sort_name": property,
            "children": property, "__len__": [], "__iter__": [], "__getitem__": ["index"], "__eq__": ["value"],
            "__str__": [], "from_line": classmethod,
        },
        "Scheme": {
            "__init__": ["bare", "tops", "forms"], "from_lines": classmethod, "bare": property, "tops": property,
            "forms": property, "names": property, "sorts": property, "lines": property, "__getitem__": ["name"],
            "__contains__": ["value"], "of_sort": ["sort"], "parents": ["sort", "step"], "__len__": [],
            "__eq__": ["value"], "__str__": [], "with_form": ["form"], "without": ["name"],
        },
    },
    "base.pictures": {
        "Picture": {
            "__init__": ["text"], "of": classmethod, "text": property, "called": property, "parts": property,
            "holes": property, "levels": property, "names": property, "paths": [], "__getitem__": ["path"],
            "mirrored": [], "__len__": [], "__bool__": [], "__eq__": ["value"], "__str__": [],
        },
    },
}
ERRORS = ("MendError", "InvalidName", "InvalidForm", "InvalidScheme", "InvalidPicture", "InvalidDrawing",
          "InvalidBook", "InvalidShape", "InvalidPaper", "InvalidOperation", "ParseError", "UnknownName", "AbsentKey",
          "UnknownPath", "NoMend", "InvalidNumber", "NothingToUndo", "TooMany", "Refused")


def module(name):
    return importlib.import_module(f"mendbooks.{name}")


def parameters(function):
    return [name for name in inspect.signature(function).parameters if name != "self"]


class Interface(unittest.TestCase):

    def test_functions(self):
        for place, functions in FUNCTIONS.items():
            for name, told in functions.items():
                function = getattr(module(place), name)
                self.assertIsInstance(function, types.FunctionType)
                self.assertEqual(function.__module__, f"mendbooks.{place}", name)
                self.assertEqual(parameters(function), told, name)

    def test_errors(self):
        for name in ERRORS:
            self.assertEqual(getattr(module("errors"), name).__module__, "mendbooks.errors")

    def test_classes(self):
        for place, classes in CLASSES.items():
            for name, methods in classes.items():
                self.assertEqual(getattr(module(place), name).__module__, f"mendbooks.{place}")
                for word, told in methods.items():
                    self.has_method(getattr(module(place), name), word, told)

    def has_method(self, owner, word, told):
        found = vars(owner).get(word)
        if isinstance(told, type):
            self.assertIsInstance(found, told, word)
        else:
            self.assertIsInstance(found, types.FunctionType, word)
            # Nobody passes the other side of == by keyword.
            self.assertEqual(len(parameters(found)), len(told), word)
            if not word.startswith("__") or word == "__init__":
                self.assertEqual(parameters(found), told, word)

    def test_class_methods(self):
        forms, pictures = module("base.forms"), module("base.pictures")
        self.assertEqual(parameters(forms.Form.from_line), ["line"])
        self.assertEqual(parameters(pictures.Picture.of), ["called", "parts"])
        kind = inspect.signature(forms.Scheme.from_lines).parameters["lines"].kind
        self.assertIs(kind, inspect.Parameter.VAR_POSITIONAL)
