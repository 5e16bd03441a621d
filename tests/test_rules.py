"""More of what can be counted of the language of the package: names, calls and the shapes of statements."""

import ast
import builtins
import functools
import re
import unittest

from tests.test_language import trees

ALLOWED_BUILTINS = set(
    "len range enumerate zip min max sum abs sorted reversed int str bool bytes list tuple dict set frozenset "
    "isinstance ord repr any all divmod pow getattr hasattr setattr Exception ValueError TypeError KeyError IndexError "
    "LookupError ZeroDivisionError ArithmeticError OverflowError RuntimeError NotImplementedError AttributeError "
    "StopIteration NotImplemented iter next map super property classmethod staticmethod type".split())
ALLOWED_METHODS = set(
    "append clear copy count endswith extend find get index insert isalnum isalpha isdigit islower isspace isupper "
    "items join keys ljust lower lstrip partition pop remove replace reverse rfind rjust rpartition rsplit rstrip "
    "setdefault split splitlines startswith strip update upper values zfill bit_length title capitalize swapcase "
    "casefold center expandtabs removeprefix removesuffix rindex isascii isdecimal isnumeric istitle isidentifier "
    "isprintable translate add discard".split())
BARRED = set("register mro elements open input law version_info with_traceback add_note".split())
BARRED_NAMES = BARRED | set(
    "attrgetter breakpoint builtins compile copyright credits delattr dir eval exec exit gc globals help id importlib "
    "license locals methodcaller os quit vars sys".split())
CHANGING = {"append", "clear", "extend", "insert", "pop", "remove", "reverse", "setdefault", "update"}


def functions(tree):
    return [node for node in ast.walk(tree) if isinstance(node, ast.FunctionDef)]


def classes():
    return [node for _, tree in trees() for node in ast.walk(tree) if isinstance(node, ast.ClassDef)]


def is_property(node):
    return any(isinstance(word, ast.Name) and word.id == "property" for word in node.decorator_list)


def methods(owner):
    return [node for node in owner.body if isinstance(node, ast.FunctionDef)]


def stored_attributes():
    return {node.attr for _, tree in trees() for node in ast.walk(tree)
            if isinstance(node, ast.Attribute) and isinstance(node.ctx, ast.Store)}


@functools.cache
def property_names():
    return {node.name for owner in classes() for node in methods(owner) if is_property(node)}


@functools.cache
def generator_names():
    return {node.name for _, tree in trees() for node in functions(tree)
            if any(isinstance(part, (ast.Yield, ast.YieldFrom)) for part in ast.walk(node))}


def is_generated(node):
    """Whether a node is the call of an own generator."""
    if not isinstance(node, ast.Call):
        return False
    word = node.func.attr if isinstance(node.func, ast.Attribute) else getattr(node.func, "id", None)
    return word in generator_names()


def called(node):
    return node.func.id if isinstance(node, ast.Call) and isinstance(node.func, ast.Name) else None


class Names(unittest.TestCase):

    def test_builtins(self):
        for path, tree in trees():
            bound = {node.name for node in ast.walk(tree) if isinstance(node, (ast.FunctionDef, ast.ClassDef))}
            for node in ast.walk(tree):
                if isinstance(node, ast.Name) and node.id != "_" and hasattr(builtins, node.id):
                    self.assertIsInstance(node.ctx, ast.Load, (path, node.id, node.lineno))
                    self.assertIn(node.id, ALLOWED_BUILTINS | bound, (path, node.lineno))
                if isinstance(node, ast.arg):
                    self.assertFalse(node.arg != "_" and hasattr(builtins, node.arg), (path, node.arg))

    def test_methods_of_builtin_values(self):
        builtin = {name for kind in (str, list, dict, set, tuple, int, bytes) for name in dir(kind)}
        for path, tree in trees():
            for node in ast.walk(tree):
                if isinstance(node, ast.Attribute) and node.attr in builtin:
                    self.assertIn(node.attr, ALLOWED_METHODS | {"__init__"}, (path, node.lineno))

    def test_barred_names(self):
        for path, tree in trees():
            for node in ast.walk(tree):
                if isinstance(node, ast.Name):
                    self.assertNotIn(node.id, BARRED_NAMES, path)
                if isinstance(node, ast.arg):
                    self.assertNotIn(node.arg, BARRED_NAMES, path)
                if isinstance(node, ast.Attribute):
                    self.assertNotIn(node.attr, BARRED | {"keys"}, path)
                if isinstance(node, (ast.FunctionDef, ast.ClassDef)):
                    self.assertNotIn(node.name, BARRED_NAMES | {"keys"}, path)

    def test_locals_and_imports_have_unlike_names(self):
        for path, tree in trees():
            taken = {name.name for node in tree.body if isinstance(node, ast.ImportFrom) for name in node.names}
            taken |= {node.name for node in tree.body if isinstance(node, ast.ClassDef)}
            for function in functions(tree):
                for node in ast.walk(function):
                    if isinstance(node, ast.Name) and isinstance(node.ctx, ast.Store):
                        self.assertNotIn(node.id, taken, (path, node.lineno))
                    if isinstance(node, ast.arg):
                        self.assertNotIn(node.arg, taken, (path, function.lineno))

    def test_names_at_module_level_are_bound_once(self):
        for path, tree in trees():
            names = [name.name for node in tree.body if isinstance(node, ast.ImportFrom) for name in node.names]
            names += [node.name for node in tree.body if isinstance(node, (ast.FunctionDef, ast.ClassDef))]
            names += [target.id for node in tree.body if isinstance(node, ast.Assign) for target in node.targets]
            self.assertEqual(len(names), len(set(names)), path)

    def test_properties(self):
        plain = {node.name for owner in classes() for node in methods(owner) if not is_property(node)}
        self.assertEqual(property_names() & plain, set())
        self.assertEqual(property_names() & stored_attributes(), set())

    def test_methods_and_attributes_of_a_class(self):
        for owner in classes():
            names = [node.name for node in methods(owner)]
            self.assertEqual(len(names), len(set(names)), owner.name)
        plain = {node.name for owner in classes() for node in methods(owner)}
        self.assertEqual(plain & stored_attributes(), set())

    def test_generators_have_names_of_their_own(self):
        told = [node.name for _, tree in trees() for node in functions(tree)]
        self.assertGreater(len(generator_names()), 1)
        for name in generator_names():
            self.assertEqual(told.count(name), 1, name)

    def test_what_stands_beside_the_call_of_a_generator(self):
        # The properties themselves count too: what they run would stand beside a call that is being iterated.
        plain = (ast.Name, ast.Attribute, ast.Constant, ast.Lambda)
        properties = property_names()
        found = 0
        for path, tree in trees():
            for node in [node for node in ast.walk(tree) if isinstance(node, ast.Call)]:
                parts = [*node.args, *(word.value for word in node.keywords)]
                if any(map(is_generated, parts)):
                    found += 1
                    for part in parts:
                        self.assertTrue(is_generated(part) or isinstance(part, plain), (path, node.lineno))
                        told = {word.attr for word in ast.walk(part) if isinstance(word, ast.Attribute)}
                        self.assertEqual(told & properties, set(), (path, node.lineno))
        self.assertGreater(found, 0)

    def test_underscores(self):
        allowed = {"__init__", "__eq__", "__str__", "__len__", "__iter__", "__getitem__", "__contains__", "__bool__",
                   "__call__", "__enter__", "__exit__"}
        for path, tree in trees():
            for node in ast.walk(tree):
                name = getattr(node, "id", getattr(node, "attr", getattr(node, "name", None)))
                if isinstance(name, str) and name.startswith("__"):
                    self.assertIn(name, allowed, path)
                if isinstance(node, ast.Name) and node.id == "_":
                    self.assertIsInstance(node.ctx, ast.Store, (path, node.lineno))


class Statements(unittest.TestCase):

    def test_statements_and_expressions(self):
        barred = (ast.AsyncFunctionDef, ast.Global, ast.Nonlocal, ast.Match, ast.Await, ast.Set, ast.Assert)
        for path, tree in trees():
            for node in ast.walk(tree):
                self.assertNotIsInstance(node, barred, (path, getattr(node, "lineno", 0)))

    def test_with(self):
        for path, tree in trees():
            for node in ast.walk(tree):
                if isinstance(node, ast.With):
                    for part in node.items:
                        self.assertIsInstance(part.context_expr, ast.Call, path)
                        self.assertIsInstance(part.optional_vars, ast.Name, path)

    def test_what_stands_in_an_exit(self):
        found = [node for owner in classes() for node in methods(owner) if node.name == "__exit__"]
        self.assertGreater(len(found), 0)
        for node in found:
            self.assertEqual([word.arg for word in node.args.args], ["self", "kind", "value", "trace"])
            for line in node.body:
                self.assertIsInstance(line, ast.Assign)
                self.assertIsInstance(line.value, ast.Attribute)
            told = {word.id for line in node.body for word in ast.walk(line) if isinstance(word, ast.Name)}
            self.assertEqual(told & {"kind", "value", "trace"}, set())

    def test_lengths(self):
        for owner in classes():
            for node in methods(owner):
                if node.name == "__len__":
                    self.assertEqual([called(line.value) for line in node.body if isinstance(line, ast.Return)],
                            ["len"])

    def test_parameters_behind_a_star(self):
        for path, tree in trees():
            for node in functions(tree):
                if node.args.kwonlyargs:
                    self.assertFalse(node.name.startswith("__") and node.name != "__init__", path)
                    self.assertNotIn(node.name, ALLOWED_METHODS, path)

    def test_heaps_are_lists_that_have_a_name(self):
        for path, tree in trees():
            for node in ast.walk(tree):
                if called(node) in ("heappush", "heappop"):
                    self.assertIsInstance(node.args[0], (ast.Name, ast.Attribute), path)
                    self.assertEqual(node.keywords, [])

    def test_tables_of_functions(self):
        # What is taken from such a table is called by a name of its own.
        for path, tree in trees():
            for node in ast.walk(tree):
                if isinstance(node, ast.Call):
                    self.assertNotIsInstance(node.func, (ast.Subscript, ast.Call), (path, node.lineno))

    def test_no_generator_expressions(self):
        for path, tree in trees():
            for node in ast.walk(tree):
                self.assertNotIsInstance(node, ast.GeneratorExp, path)

    def test_comprehensions(self):
        for path, tree in trees():
            for node in ast.walk(tree):
                if isinstance(node, (ast.ListComp, ast.DictComp, ast.SetComp)):
                    self.assertLessEqual(len(node.generators), 6)
                    self.assertLessEqual(sum(len(part.ifs) for part in node.generators), 12)

    def test_decorators(self):
        for path, tree in trees():
            for node in functions(tree):
                for word in node.decorator_list:
                    self.assertIn(word.id, ("property", "classmethod"), path)

    def test_is(self):
        for path, tree in trees():
            for node in ast.walk(tree):
                if isinstance(node, ast.Compare):
                    for operator, side in zip(node.ops, node.comparators):
                        if isinstance(operator, (ast.Is, ast.IsNot)):
                            self.assertIsInstance(side, ast.Constant, (path, node.lineno))

    def test_errors_that_are_caught_are_own_ones(self):
        own = {node.name for path, tree in trees() if path.name == "errors.py" for node in tree.body
               if isinstance(node, ast.ClassDef)}
        for path, tree in trees():
            for node in ast.walk(tree):
                if isinstance(node, ast.ExceptHandler):
                    self.assertIn(node.type.id, own | {"KeyError"}, (path, node.lineno))
                    used = {word.attr for part in node.body for word in ast.walk(part)
                            if isinstance(word, ast.Attribute) and isinstance(word.value, ast.Name)
                            and word.value.id == node.name}
                    self.assertEqual(used - {"number", "limit", "pledge", "where"}, set(), (path, node.lineno))

    def test_errors_are_made_where_they_are_raised(self):
        for path, tree in trees():
            for node in ast.walk(tree):
                if isinstance(node, ast.Raise):
                    self.assertIsInstance(node.exc, ast.Call, (path, node.lineno))

    def test_exponents(self):
        for path, tree in trees():
            for node in ast.walk(tree):
                if isinstance(node, ast.BinOp) and isinstance(node.op, ast.Pow):
                    self.assertIsInstance(node.right, ast.Constant, path)
                    self.assertLessEqual(node.right.value, 64)

    def test_strings(self):
        for path, tree in trees():
            for node in ast.walk(tree):
                if isinstance(node, ast.Constant) and isinstance(node.value, str):
                    self.assertNotIn("%", node.value, path)
                    self.assertIsNone(re.search(r"\b__|\._$", node.value), path)

    def test_stars_in_calls(self):
        for path, tree in trees():
            for node in ast.walk(tree):
                if isinstance(node, ast.Call):
                    self.assertFalse([word for word in node.keywords if word.arg is None], path)
                    for part in node.args:
                        if isinstance(part, ast.Starred):
                            self.assertIsInstance(part.value, (ast.Name, ast.Attribute), (path, node.lineno))

    def test_no_list_is_sorted_in_place(self):
        for path, tree in trees():
            for node in ast.walk(tree):
                self.assertFalse(isinstance(node, ast.Attribute) and node.attr == "sort", path)

    def test_what_a_loop_goes_over_is_not_changed(self):
        for path, tree in trees():
            for loop in [node for node in ast.walk(tree) if isinstance(node, ast.For)]:
                over = {ast.unparse(part) for part in ast.walk(loop.iter) if isinstance(part,
                                                                                        (ast.Name, ast.Attribute))}
                for node in [part for line in loop.body for part in ast.walk(line)]:
                    if isinstance(node, ast.Call) and isinstance(node.func, ast.Attribute):
                        if node.func.attr in CHANGING:
                            self.assertNotIn(ast.unparse(node.func.value), over, (path, node.lineno))
                    if isinstance(node, ast.Subscript) and not isinstance(node.ctx, ast.Load):
                        self.assertNotIn(ast.unparse(node.value), over, (path, node.lineno))

    def test_iterators_are_not_kept(self):
        for path, tree in trees():
            for node in ast.walk(tree):
                if isinstance(node, ast.Assign):
                    self.assertNotIn(called(node.value), ("zip", "enumerate", "reversed", "map", "iter"), path)

    def test_sets_are_not_gone_over(self):
        for path, tree in trees():
            for node in ast.walk(tree):
                if isinstance(node, (ast.For, ast.comprehension)):
                    self.assertNotIsInstance(node.iter, ast.SetComp, path)
                    self.assertNotEqual(called(node.iter), "set", path)

    def test_defaults_are_plain(self):
        for path, tree in trees():
            for function in functions(tree):
                for value in [*function.args.defaults, *function.args.kw_defaults]:
                    if not (isinstance(value, ast.Tuple) and value.elts == []):
                        self.assertIsInstance(value, ast.Constant, (path, function.name))

    def test_no_two_files_import_from_each_other(self):
        needs = {}
        for path, tree in trees():
            name = ".".join(path.with_suffix("").parts[path.parts.index("mendbooks"):])
            needs[name.removesuffix(".__init__")] = [
                node.module for node in tree.body if isinstance(node, ast.ImportFrom) and "mendbooks" in node.module]
        order = []
        while len(order) < len(needs):
            ready = [name for name in needs if name not in order and all(other in order for other in needs[name])]
            self.assertNotEqual(ready, [], "files that import from each other")
            order += ready

    def test_imports_name_the_file_that_defines(self):
        defined = {}
        for path, tree in trees():
            name = ".".join(path.with_suffix("").parts[path.parts.index("mendbooks"):])
            defined[name] = {node.name for node in tree.body if isinstance(node, (ast.FunctionDef, ast.ClassDef))}
            defined[name] |= {target.id for node in tree.body if isinstance(node,
                                                                            ast.Assign) for target in node.targets}
        for path, tree in trees():
            for node in tree.body:
                if isinstance(node, ast.ImportFrom) and node.module.startswith("mendbooks."):
                    for name in node.names:
                        self.assertIn(name.name, defined[node.module], path)
