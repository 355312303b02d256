"""The rules of ../shared/LANGUAGE.md that can be seen in the code of the package.

Where a rule allows something that the package has no use for, the test is
narrower than the rule and simply bars it.
"""

import ast
import builtins
import os
import re
import unittest

FOLDER = os.path.join(os.path.dirname(os.path.dirname(os.path.abspath(__file__))), "bitshades")

BUILTINS = (
    "len range enumerate zip min max sum abs sorted reversed int str bool list tuple dict set isinstance ord repr any "
    "all divmod iter super property classmethod staticmethod Exception ValueError TypeError KeyError IndexError "
    "LookupError ZeroDivisionError NotImplemented"
).split()

METHODS = (
    "append clear copy count endswith extend find get index insert isalnum isalpha isdigit islower isspace isupper "
    "items join keys ljust lower lstrip partition pop remove replace reverse rfind rjust rpartition rsplit rstrip "
    "setdefault split splitlines startswith strip update upper values zfill bit_length"
).split()

DOUBLE_UNDERSCORE = (
    "__init__ __eq__ __repr__ __str__ __len__ __iter__ __call__ __add__ __and__ __invert__ __getitem__ __contains__"
).split()

NODES = (
    "Module Expr Import ImportFrom alias FunctionDef ClassDef arguments arg Assign AugAssign If While For Return Break "
    "Continue Pass Raise Assert Try ExceptHandler Call keyword Attribute Name Constant List Tuple Dict Subscript Slice "
    "Starred BinOp UnaryOp BoolOp Compare IfExp ListComp SetComp DictComp comprehension JoinedStr FormattedValue Load Store "
    "Add Sub Mult FloorDiv Mod Pow LShift RShift BitAnd BitOr BitXor USub Invert Not And Or Eq NotEq Lt LtE Gt GtE Is IsNot "
    "In NotIn"
).split()

BARRED_NAMES = (
    "register mro elements open input law version_info with_traceback add_note attrgetter breakpoint builtins compile "
    "copyright credits delattr dir eval exec exit gc globals help id importlib license locals methodcaller os quit "
    "setattr getattr hasattr vars sys _cold _tuplegetter _outside _record _written_out _member_names"
).split()

BARRED_WORDS = (
    "typing typing_extensions enum Enum IntEnum StrEnum Flag IntFlag Generic Protocol ABC ABCMeta namedtuple NamedTuple "
    "TypedDict TYPE_CHECKING abstractmethod type"
).split()

LIBRARY = {"math": ("gcd", "lcm", "isqrt", "comb", "perm", "factorial")}
ITERATED_AT_ONCE = ("zip", "enumerate", "reversed", "range")
TAKING_ITERATED = ("list", "tuple", "dict", "sorted", "sum", "any", "all", "enumerate", "zip", "min", "max")


def file_names():
    return sorted(name for name in os.listdir(FOLDER) if name != "__pycache__")


def source_of(name):
    with open(os.path.join(FOLDER, name), encoding="utf-8", newline="") as file:
        return file.read()


SOURCES = {name: source_of(name) for name in file_names()}
TREES = {name: ast.parse(source) for name, source in SOURCES.items()}


def nodes(*kinds):
    """All nodes of these kinds, with a word on where they stand."""
    for name, tree in TREES.items():
        for node in ast.walk(tree):
            if isinstance(node, kinds):
                yield f"{name}:{getattr(node, 'lineno', 0)}", node


def is_docstring(statement):
    return isinstance(statement, ast.Expr) and isinstance(getattr(statement, "value", None), ast.Constant)


def plain(value):
    """Whether a value at module level is plainly written out."""
    if isinstance(value, (ast.Tuple, ast.List)):
        return all(plain(item) for item in value.elts)
    return isinstance(value, ast.Constant) and isinstance(value.value, (int, str, bool, type(None)))


def plain_dict(value, functions):
    """Whether a dict at module level is plainly written out, from texts to tuples or to functions above it."""
    if not isinstance(value, ast.Dict) or not all(plain(key) for key in value.keys):
        return False
    named = [item for item in value.values if isinstance(item, ast.Name)]
    if not all(item.id in functions for item in named):
        return False
    return all(plain(item) and not isinstance(item, ast.List) for item in value.values if item not in named)


def defined_in(tree):
    names = [node.name for node in tree.body if isinstance(node, (ast.FunctionDef, ast.ClassDef))]
    for node in tree.body:
        if isinstance(node, ast.Assign):
            names.append(node.targets[0].id)
    return names


def imported_in(tree):
    return [alias.name for node in tree.body if isinstance(node, ast.ImportFrom) for alias in node.names]


def imported_files(tree):
    files = [node.module for node in tree.body if isinstance(node, ast.ImportFrom)]
    return [name.split(".")[1] + ".py" for name in files if name.startswith("bitshades.")]


def methods_of_package():
    return [
        item.name
        for _, node in nodes(ast.ClassDef)
        for item in node.body
        if isinstance(item, ast.FunctionDef)
    ]


class Files(unittest.TestCase):
    def test_names(self):
        self.assertIn("__init__.py", SOURCES)
        self.assertLessEqual(len(SOURCES), 100)
        for name in SOURCES:
            self.assertRegex(name, r"^(__init__|[a-z][a-z0-9_]*)\.py$")
            self.assertNotIn(name[:-3], dir(builtins))
            self.assertNotRegex(name, "^(law_|test|site|conftest|usercustomize|heapq|math|itertools)")

    def test_size_and_characters(self):
        for name, source in SOURCES.items():
            self.assertRegex(source, r"\A[ -~\n]*\Z", name)
            lines = source.split("\n")
            self.assertLessEqual(len(lines), 400, name)
            for line in lines:
                self.assertLessEqual(len(line), 120, line)
        for where, node in nodes(ast.FunctionDef):
            self.assertLessEqual(node.end_lineno - node.lineno + 1, 40, where)

    def test_barred_words(self):
        for name, source in SOURCES.items():
            self.assertNotRegex(source, r"_wall|_WallAttr|\(type\)|Meta|metaclass=|dataclass|overload|contextmanager", name)
            for word in BARRED_WORDS:
                self.assertNotRegex(source, rf"\b{word}\b", name)

    def test_no_percent_sign_or_odd_escape_in_a_text(self):
        for where, node in nodes(ast.Constant):
            if isinstance(node.value, str):
                self.assertNotIn("%", node.value, where)
                self.assertNotRegex(node.value, r"^__|\._$|\.__$", where)
        for name, source in SOURCES.items():
            self.assertNotRegex(source, r"\\[^nt\\'\"]", name)


class Modules(unittest.TestCase):
    def test_module_level(self):
        for name, tree in TREES.items():
            bound = defined_in(tree) + imported_in(tree)
            self.assertEqual(len(bound), len(set(bound)), name)
            functions = []
            for statement in tree.body:
                if isinstance(statement, ast.FunctionDef):
                    functions.append(statement.name)
                if isinstance(statement, ast.Assign):
                    self.assertEqual(len(statement.targets), 1, name)
                    self.assertTrue(plain(statement.value) or plain_dict(statement.value, functions), name)
                elif not is_docstring(statement):
                    self.assertIsInstance(statement, (ast.ImportFrom, ast.FunctionDef, ast.ClassDef), name)

    def test_imports(self):
        for name, tree in TREES.items():
            for node in ast.walk(tree):
                self.assertNotIsInstance(node, ast.Import, name)
                if isinstance(node, ast.ImportFrom):
                    self.assertIn(node, tree.body)
                    self.check_import(name, node)

    def check_import(self, name, node):
        self.assertEqual(node.level, 0, name)
        for alias in node.names:
            self.assertIsNone(alias.asname, name)
            if node.module in LIBRARY:
                self.assertIn(alias.name, LIBRARY[node.module], name)
            else:
                self.assertTrue(node.module.startswith("bitshades."), name)
                self.assertIn(alias.name, defined_in(TREES[node.module.split(".")[1] + ".py"]), name)

    def test_imports_stand_at_the_top_and_are_used(self):
        for name, tree in TREES.items():
            body = [node for node in tree.body if not is_docstring(node)]
            kinds = [isinstance(node, ast.ImportFrom) for node in body]
            self.assertEqual(kinds, sorted(kinds, reverse=True), name)
            read = {node.id for node in ast.walk(tree) if isinstance(node, ast.Name)}
            for imported in imported_in(tree):
                self.assertIn(imported, read, name)

    def test_no_circle_of_imports(self):
        left = {name: imported_files(tree) for name, tree in TREES.items()}
        while left:
            free = [name for name in left if not any(other in left for other in left[name])]
            self.assertTrue(free, f"a circle within {sorted(left)}")
            left = {name: left[name] for name in left if name not in free}


class Statements(unittest.TestCase):
    def test_kinds(self):
        for where, node in nodes(ast.AST):
            self.assertIn(type(node).__name__, NODES, where)

    def test_plain_functions(self):
        for where, node in nodes(ast.FunctionDef):
            self.assertIsNone(node.returns, where)
            taken = node.args.posonlyargs + node.args.args + node.args.kwonlyargs
            self.assertTrue(all(one.annotation is None for one in taken), where)
            self.assertIsNone(node.args.kwarg, where)
            for default in node.args.defaults + [one for one in node.args.kw_defaults if one is not None]:
                self.assertTrue(plain(default) and not isinstance(default, ast.List), where)
            for inner in ast.walk(node):
                self.assertTrue(inner is node or not isinstance(inner, ast.FunctionDef), where)

    def test_classes_and_decorators(self):
        for name, tree in TREES.items():
            in_classes = []
            for node in tree.body:
                if isinstance(node, ast.ClassDef):
                    self.assertEqual((node.decorator_list, node.keywords), ([], []), name)
                    in_classes += [item for item in node.body if isinstance(item, ast.FunctionDef)]
                    self.assertEqual(len(node.body), len([one for one in node.body if self.may_stand(one)]), name)
            for node in ast.walk(tree):
                if isinstance(node, ast.FunctionDef):
                    marks = [mark.id for mark in node.decorator_list]
                    self.assertLessEqual(len(marks), int(node in in_classes), name)
                    self.assertLessEqual(set(marks), {"property", "classmethod", "staticmethod"}, name)
                    if node.name.startswith("__"):
                        self.assertIn(node.name, DOUBLE_UNDERSCORE, name)
                        self.assertIn(node, in_classes, name)

    def may_stand(self, statement):
        return is_docstring(statement) or isinstance(statement, ast.FunctionDef)

    def test_operators_have_the_told_parameters(self):
        told = {"__add__": ["self", "other"], "__and__": ["self", "other"], "__eq__": ["self", "other"]}
        told.update({"__getitem__": ["self", "at"], "__invert__": ["self"], "__iter__": ["self"]})
        told.update({"__call__": ["self", "asked", "coin_row"], "__contains__": ["self", "x"], "__len__": ["self"]})
        for where, node in nodes(ast.FunctionDef):
            if node.name in told:
                self.assertEqual([one.arg for one in node.args.args], told[node.name], where)

    def test_raising(self):
        errors = [node.name for node in TREES["errors.py"].body if isinstance(node, ast.ClassDef)]
        for where, node in nodes(ast.Raise):
            self.assertIsNone(node.cause, where)
            self.assertIsInstance(node.exc, ast.Call, where)
            self.assertIn(node.exc.func.id, errors, where)
            self.assertEqual(node.exc.keywords, [], where)

    def test_catching(self):
        errors = [node.name for node in TREES["errors.py"].body if isinstance(node, ast.ClassDef)]
        for where, node in nodes(ast.Try):
            self.assertEqual((len(node.handlers), node.orelse, node.finalbody), (1, [], []), where)
            self.assertIsInstance(node.handlers[0].type, ast.Name, where)
            self.assertIn(node.handlers[0].type.id, errors, where)
            self.assertIsNone(node.handlers[0].name, where)

    def test_tables_of_functions_are_called_by_a_name(self):
        for where, node in nodes(ast.Call):
            self.assertIsInstance(node.func, (ast.Name, ast.Attribute), where)

    def test_sets_are_only_measured_or_sorted(self):
        allowed = []
        for _, node in nodes(ast.Call):
            if isinstance(node.func, ast.Name) and node.func.id in ("len", "sorted"):
                allowed += node.args
        for where, node in nodes(ast.SetComp, ast.Set):
            self.assertTrue(any(node is one for one in allowed), where)
        for where, node in nodes(ast.Call):
            if isinstance(node.func, ast.Name) and node.func.id == "set":
                self.assertTrue(any(node is one for one in allowed), where)

    def test_is_beside_none_true_and_false(self):
        for where, node in nodes(ast.Compare):
            for operator, right in zip(node.ops, node.comparators):
                if isinstance(operator, (ast.Is, ast.IsNot)):
                    self.assertIn(getattr(right, "value", 0), (None, True, False), where)

    def test_exponents_are_written_out(self):
        for where, node in nodes(ast.BinOp):
            if isinstance(node.op, ast.Pow):
                self.assertIsInstance(node.right, ast.Constant, where)
                self.assertIn(node.right.value, range(65), where)

    def test_no_floats(self):
        for where, node in nodes(ast.Constant):
            self.assertIn(type(node.value), (int, str, bool, type(None)), where)


class NamesAndCalls(unittest.TestCase):
    def bound_names(self):
        for where, node in nodes(ast.FunctionDef, ast.ClassDef):
            yield where, node.name
        for where, node in nodes(ast.arg):
            yield where, node.arg
        for where, node in nodes(ast.Name):
            if isinstance(node.ctx, ast.Store):
                yield where, node.id
        for where, node in nodes(ast.Attribute):
            yield where, node.attr

    def test_plain_names(self):
        for where, name in self.bound_names():
            if name not in DOUBLE_UNDERSCORE:
                self.assertRegex(name, "^(_|_?[A-Za-z][A-Za-z0-9_]*)$", where)
                self.assertNotIn(name, BARRED_NAMES, where)

    def test_no_name_of_a_builtin_is_bound(self):
        methods = methods_of_package()
        for where, name in self.bound_names():
            if name not in methods and name not in METHODS and name != "__init__":
                self.assertNotIn(name, dir(builtins), where)

    def test_builtins(self):
        for where, node in nodes(ast.Name):
            if node.id in dir(builtins):
                self.assertIn(node.id, BUILTINS, where)
            self.assertFalse(node.id == "_" and isinstance(node.ctx, ast.Load), where)

    def test_locals_have_no_name_of_an_import_or_a_class(self):
        for name, tree in TREES.items():
            taken = imported_in(tree) + [node.name for node in tree.body if isinstance(node, ast.ClassDef)]
            for function in ast.walk(tree):
                if isinstance(function, ast.FunctionDef):
                    for node in ast.walk(function):
                        if isinstance(node, ast.arg):
                            self.assertNotIn(node.arg, taken, name)
                        if isinstance(node, ast.Name) and isinstance(node.ctx, ast.Store):
                            self.assertNotIn(node.id, taken, name)

    def test_methods_that_are_called(self):
        own = methods_of_package()
        for where, node in nodes(ast.Call):
            if isinstance(node.func, ast.Attribute):
                self.assertIn(node.func.attr, METHODS + own, where)
                self.assertEqual(node.keywords, [], where)
            if isinstance(node.func, ast.Name) and node.func.id in dir(builtins):
                self.assertLessEqual({one.arg for one in node.keywords}, {"key", "reverse", "default", "start"}, where)

    def test_lists_where_a_class_compares(self):
        for where, node in nodes(ast.Call):
            for value in node.args:
                self.assertNotIsInstance(value, ast.GeneratorExp, where)

    def test_iterated_at_once(self):
        at_once = []
        for _, node in nodes(ast.For, ast.comprehension):
            at_once.append(node.iter)
        for _, node in nodes(ast.Call):
            if isinstance(node.func, ast.Name) and node.func.id in TAKING_ITERATED:
                at_once += node.args
        for where, node in nodes(ast.Call):
            if isinstance(node.func, ast.Name) and node.func.id in ITERATED_AT_ONCE:
                self.assertTrue(any(node is one for one in at_once), where)

    def test_isinstance_names_classes(self):
        for where, node in nodes(ast.Call):
            if isinstance(node.func, ast.Name) and node.func.id == "isinstance":
                told = ast.unparse(node.args[1])
                self.assertTrue(re.fullmatch(r"int|str|bool|list|tuple|dict|Table|Asked|Trial|Book|\(list, tuple\)", told), where)


if __name__ == "__main__":
    unittest.main()
