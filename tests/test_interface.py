"""The interface: names, arguments and places of definition are as written."""

import importlib
import inspect
import types
import unittest

FUNCTIONS = {
    "base.words": {
        "is_integer": ["value"], "is_count": ["value"], "is_name": ["value"], "is_names": ["value"],
    },
    "base.forms": {
        "mirrored_scheme": ["scheme"], "renamed_scheme": ["scheme", "sorts", "forms"],
    },
    "base.pictures": {
        "are_apart": ["one", "other"], "is_sound_picture": ["scheme", "value"], "spots_of": ["scheme", "picture"],
        "spot_over": ["scheme", "picture", "spots"],
    },
    "books.drawings": {"clash": ["one", "other"]},
    "books.books": {
        "mirrored_book": ["book"], "renamed_book": ["book", "sorts", "forms"], "choice": ["book", "place", "opened"],
    },
    "ranks.counts": {
        "count_sound": ["scheme", "sort", "rank", "keys"], "count_right": ["scheme", "keys"],
        "each_right": ["scheme", "keys"], "right_at": ["scheme", "keys", "number"], "number_of": ["shape"],
    },
    "ranks.heights": {
        "least_keys": ["scheme", "height"], "most_keys": ["scheme", "height"], "greatest_height": ["scheme", "keys"],
        "least_height": ["scheme", "keys"], "tall_tree": ["scheme", "keys"],
    },
    "mend.deeds": {
        "is_deed": ["shape", "value"], "put": ["book", "shape", "gap"], "cut": ["book", "shape", "gap"],
        "steps": ["book", "shape", "deed"], "failing_place": ["book", "shape", "deed"],
        "fresh_nodes": ["book", "shape", "deed"],
    },
    "decide.tables": {"beside": ["book", "row"], "is_beside": ["book", "row", "value"]},
    "decide.least": {
        "paper": ["book", "kind"], "is_paper": ["book", "kind", "value"], "is_good": ["book", "kind"],
        "least_bad": ["book", "kind"], "realize": ["book", "kind", "way"],
    },
    "mend.joins": {
        "join_shapes": ["book", "one", "other"], "raise_shape": ["book", "shape"],
        "join_steps": ["book", "one", "other"], "split_shape": ["book", "shape", "number"],
    },
    "decide.joins": {"join_paper": ["book"], "is_join_paper": ["book", "value"], "unraised": ["book"]},
    "decide.uses": {
        "most_drawings": ["book", "kind"], "long_deed": ["book", "kind", "many"], "used": ["book", "kind"],
        "least_use": ["book", "kind", "line"], "spared": ["book"], "lacking": ["book", "kind"],
    },
    "text.texts": {
        "write_book": ["book"], "read_book": ["text"], "write_rows": ["rows"], "read_rows": ["text"],
        "write_paper": ["paper"], "read_paper": ["text"],
    },
}
CONSTANTS = {
    "base.words": {"MAX_LETTERS": 8, "MAX_DIGITS": 60},
    "base.forms": {"MAX_CHILDREN": 4, "MAX_STEP": 3, "MAX_SORTS": 8, "MAX_FORMS": 24},
    "base.pictures": {"MAX_LEVELS": 4, "HOLE": "."},
    "books.drawings": {"MAX_DIFFERENCE": 12, "KINDS": ("put", "cut", "mend", "top", "join")},
    "books.books": {"MAX_DRAWINGS": 150},
    "trees.shapes": {"MAX_ROWS": 4000},
    "ranks.ranks": {"MAX_TURN": 100, "MAX_RANK": 400},
    "ranks.counts": {"MAX_COUNTED": 40},
    "ranks.heights": {"MAX_HEIGHT": 100},
    "decide.tables": {"DEEDS": ("put", "cut", "left", "right"), "MAX_TABLE": 20000},
    "use.bench": {"MAX_PLEDGES": 10},
}
CLASSES = {
    "base.forms": {
        "Form": {
            "__init__": ["called", "sort", "children"], "called": property, "sort_name": property,
            "children": property, "__len__": [], "__iter__": [], "__getitem__": ["index"], "__eq__": ["value"],
            "__str__": [], "from_line": classmethod,
        },
        "Scheme": {
            "__init__": ["bare", "tops", "forms"], "from_lines": classmethod, "bare": property, "tops": property,
            "forms": property, "names": property, "sorts": property, "lines": property, "__getitem__": ["name"],
            "__contains__": ["value"], "of_sort": ["sort"], "parents": ["sort", "step"], "__len__": [],
            "__eq__": ["value"], "__str__": [], "with_form": ["form"], "without": ["name"],
        },
    },
    "base.pictures": {
        "Picture": {
            "__init__": ["text"], "of": classmethod, "text": property, "called": property, "parts": property,
            "holes": property, "levels": property, "names": property, "paths": [], "__getitem__": ["path"],
            "mirrored": [], "__len__": [], "__bool__": [], "__eq__": ["value"], "__str__": [],
        },
    },
    "books.drawings": {
        "Drawing": {
            "__init__": ["scheme", "line"], "scheme": property, "line": property, "kind": property, "place": property,
            "first": property, "second": property, "result": property, "hand": property, "is_odd": property,
            "opened": property, "mirrored": ["scheme"], "__eq__": ["value"], "__str__": [], "__len__": [],
        },
    },
    "books.books": {
        "Book": {
            "__init__": ["scheme", "drawings"], "from_lines": classmethod, "scheme": property, "drawings": property,
            "put_drawing": property, "lines": property, "places": property, "at": ["place"], "__getitem__": ["line"],
            "__contains__": ["value"], "with_drawing": ["line"], "without": ["line"], "__len__": [], "__iter__": [],
            "__eq__": ["value"], "__str__": [],
        },
    },
    "trees.shapes": {
        "Shape": {
            "__init__": ["scheme", "rows"], "node": classmethod, "scheme": property, "rows": property, "size": property,
            "height": property, "spot": property, "is_right": property, "fault": property, "path_to": ["gap"],
            "below": ["path"], "name_at": ["path"], "replaced": ["path", "other"], "mirrored": [], "__len__": [],
            "__bool__": [], "__eq__": ["value"], "__str__": [],
        },
    },
    "ranks.ranks": {
        "Ranks": {
            "__init__": ["scheme"], "scheme": property, "turn": property, "period": property, "base_of": ["rank"],
            "sorts_at": ["rank"], "forms_at": ["rank"], "useful_at": ["rank"], "choices_at": ["sort", "rank"],
            "least": ["sort", "rank"], "least_shape": ["sort", "rank"], "around": ["sort", "rank"], "hung": ["shape"],
            "__eq__": ["value"], "__str__": [],
        },
    },
    "decide.tables": {
        "Table": {
            "__init__": ["book", "kind"], "book": property, "kind": property, "rows": property, "starts": property,
            "open_rows": property, "open_starts": property, "is_good": property, "leads": ["row"], "way": ["row"],
            "__contains__": ["value"], "__len__": [], "__iter__": [], "__eq__": ["value"], "__str__": [],
        },
    },
    "use.index": {
        "Index": {
            "__init__": ["book", "content"], "from_shape": classmethod, "book": property, "shape": property,
            "content": property, "__contains__": ["value"], "__len__": [], "__iter__": [], "__getitem__": ["number"],
            "less": ["key"], "under": ["key"], "over": ["key"], "between": ["low", "high"], "with_key": ["key"],
            "without_key": ["key"], "united": ["other"], "lessened": ["other"], "shared": ["other"], "elder": ["many"],
            "__eq__": ["value"], "__str__": [],
        },
    },
    "use.bench": {
        "Bench": {
            "__init__": ["book"], "draw": ["line"], "erase": ["line"], "demand": ["pledge"], "waive": ["pledge"],
            "undo": ["many"], "redo": ["many"], "trial": [], "during": ["call"], "twin": [], "book": property,
            "pledges": property, "__contains__": ["value"], "__len__": [], "__iter__": [], "__eq__": ["value"],
            "__str__": [],
        },
    },
    "text.shell": {
        "Shell": {"__init__": ["text"], "__call__": ["line"], "run": ["line"], "bench": [], "__len__": []},
    },
}
ERRORS = ("MendError", "InvalidName", "InvalidForm", "InvalidScheme", "InvalidPicture", "InvalidDrawing",
          "InvalidBook", "InvalidShape", "InvalidPaper", "InvalidOperation", "ParseError", "UnknownName", "AbsentKey",
          "UnknownPath", "NoMend", "InvalidNumber", "NothingToUndo", "TooMany", "Refused")


def module(name):
    return importlib.import_module(f"mendbooks.{name}")


def parameters(function):
    return [name for name in inspect.signature(function).parameters if name != "self"]


class Interface(unittest.TestCase):

    def test_functions(self):
        for place, functions in FUNCTIONS.items():
            for name, told in functions.items():
                function = getattr(module(place), name)
                self.assertIsInstance(function, types.FunctionType)
                self.assertEqual(function.__module__, f"mendbooks.{place}", name)
                self.assertEqual(parameters(function), told, name)

    def test_constants(self):
        for place, constants in CONSTANTS.items():
            for name, value in constants.items():
                self.assertEqual(getattr(module(place), name), value)
                self.assertIs(type(getattr(module(place), name)), type(value))

    def test_each_right_is_a_generator(self):
        self.assertTrue(inspect.isgeneratorfunction(module("ranks.counts").each_right))

    def test_errors(self):
        for name in ERRORS:
            self.assertEqual(getattr(module("errors"), name).__module__, "mendbooks.errors")

    def test_classes(self):
        for place, classes in CLASSES.items():
            for name, methods in classes.items():
                self.assertEqual(getattr(module(place), name).__module__, f"mendbooks.{place}")
                for word, told in methods.items():
                    self.has_method(getattr(module(place), name), word, told)

    def has_method(self, owner, word, told):
        found = vars(owner).get(word)
        if isinstance(told, type):
            self.assertIsInstance(found, told, word)
        else:
            self.assertIsInstance(found, types.FunctionType, word)
            # Nobody passes the other side of == by keyword.
            self.assertEqual(len(parameters(found)), len(told), word)
            if not word.startswith("__") or word == "__init__":
                self.assertEqual(parameters(found), told, word)

    def test_keywords(self):
        index, bench = module("use.index").Index, module("use.bench").Bench
        for method in (index.elder, bench.undo, bench.redo):
            found = inspect.signature(method).parameters["many"]
            self.assertEqual((found.kind, found.default), (inspect.Parameter.KEYWORD_ONLY, 1))
        found = inspect.signature(index).parameters["content"]
        self.assertEqual((found.kind, found.default), (inspect.Parameter.POSITIONAL_OR_KEYWORD, ()))
        self.assertTrue(inspect.isgeneratorfunction(index.between))

    def test_class_methods(self):
        self.assertEqual(parameters(module("use.index").Index.from_shape), ["book", "shape", "content"])
        forms, pictures = module("base.forms"), module("base.pictures")
        self.assertEqual(parameters(module("trees.shapes").Shape.node), ["scheme", "name", "parts"])
        kind = inspect.signature(module("books.books").Book.from_lines).parameters["lines"].kind
        self.assertIs(kind, inspect.Parameter.VAR_POSITIONAL)
        self.assertEqual(parameters(forms.Form.from_line), ["line"])
        self.assertEqual(parameters(pictures.Picture.of), ["called", "parts"])
        kind = inspect.signature(forms.Scheme.from_lines).parameters["lines"].kind
        self.assertIs(kind, inspect.Parameter.VAR_POSITIONAL)
