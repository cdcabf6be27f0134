"""That the files of the package keep to the rules of the language which can be seen file by file.

It is narrower than the rules: what the package does not need is not let in. Widen it, rule by rule,
when something more is needed.
"""

import ast
import builtins
import pathlib
import re
import unittest

FOLDER = pathlib.Path(__file__).resolve().parent.parent / "framemoves"
FILES = sorted(FOLDER.rglob("*.py"))
TREES = {path: ast.parse(path.read_text()) for path in FILES}

# L6, L7: no float, no generator expression, no set literal, no star, no match, no with, no global.
NODES = {"Module", "Expr", "Constant", "ImportFrom", "alias", "FunctionDef", "ClassDef", "arguments", "arg",
         "Assign", "AugAssign", "Name", "Load", "Store", "Return", "Raise", "If", "For", "While", "Break",
         "Continue", "Pass", "Try", "ExceptHandler", "Call", "keyword", "Attribute", "Subscript", "Slice", "Tuple",
         "List", "Dict", "ListComp", "DictComp", "SetComp", "comprehension", "BoolOp", "And", "Or", "UnaryOp", "Not",
         "USub", "BinOp", "Add", "Sub", "Mult", "Mod", "FloorDiv", "BitAnd", "BitOr", "LShift", "RShift", "Compare", "Eq", "NotEq", "Lt", "LtE", "Gt", "GtE", "Is", "IsNot",
         "In", "NotIn", "IfExp", "JoinedStr", "FormattedValue", "Lambda"}

BUILTINS = {"len", "range", "enumerate", "zip", "min", "max", "sum", "abs", "sorted", "reversed", "int", "str", "bool",
            "list", "tuple", "dict", "set", "isinstance", "repr", "any", "all", "ValueError",
            "property", "staticmethod"}

# The classes whose objects change behind their making. Objects of the interface are of none of these.
CHANGING = {"Table", "Looks", "Rounds", "Trail", "Walk", "Cores", "Standings", "Tracks", "Watch", "Book"}

METHODS = set("""append clear copy count endswith extend find get index insert isalnum isalpha isdigit islower isspace
isupper items join keys ljust lower lstrip partition pop remove replace reverse rfind rjust rpartition rsplit rstrip
setdefault split splitlines startswith strip update upper values zfill bit_length""".split())

DUNDERS = set("""__init__ __eq__ __repr__ __str__ __len__ __call__ __contains__ __or__ __and__ __mul__""".split())

NEVER_NAMES = set("""register mro elements open input law version_info with_traceback add_note attrgetter breakpoint
builtins compile copyright credits delattr dir eval exec exit gc getattr globals hasattr help id importlib license
locals methodcaller os quit setattr super type vars sys""".split())

NEVER_WORDS = set("""typing typing_extensions enum Enum IntEnum StrEnum Flag IntFlag Generic Protocol ABC ABCMeta
namedtuple NamedTuple TypedDict TYPE_CHECKING abstractmethod""".split())


def nodes_of(*kinds):
    """All nodes of some kinds in all files, with their files."""
    return [(path, node) for path, tree in TREES.items() for node in ast.walk(tree) if isinstance(node, kinds)]


def bound_names(path):
    """The names that stand at module level, with the imports."""
    found = []
    for node in TREES[path].body:
        if isinstance(node, (ast.FunctionDef, ast.ClassDef)):
            found.append(node.name)
        elif isinstance(node, ast.Assign):
            found.extend(target.id for target in node.targets)
        elif isinstance(node, ast.ImportFrom):
            found.extend(name.name for name in node.names)
    return found


def module_path(name):
    return FOLDER.parent / (name.replace(".", "/") + ".py")


def docstrings(tree):
    """The constants of a file that are docstrings."""
    holders = [node for node in ast.walk(tree) if isinstance(node, (ast.Module, ast.FunctionDef, ast.ClassDef))]
    return [node.body[0].value for node in holders if ast.get_docstring(node) is not None]


class FilesTest(unittest.TestCase):
    def test_folder(self):
        for path in FOLDER.rglob("*"):
            if "__pycache__" not in path.parts:
                self.assertTrue(re.fullmatch(r"[a-z][a-z0-9_]*\.py|__init__\.py", path.name), path)
                self.assertNotIn(path.stem, vars(builtins))

    def test_characters_and_sizes(self):
        for path in FILES:
            text = path.read_text()
            self.assertTrue(re.fullmatch(r"[ -~\n]*", text), path)
            self.assertTrue(text.endswith("\n") and not text.endswith("\n\n"), path)
            self.assertLess(len(text.splitlines()), 400, path)
            for line in text.splitlines():
                self.assertLessEqual(len(line), 120, path)
                self.assertEqual(line, line.rstrip(), path)
        for path, node in nodes_of(ast.FunctionDef):
            self.assertLessEqual(node.end_lineno - node.lineno + 1, 40, (path, node.name))

    def test_module_level(self):
        for path, tree in TREES.items():
            self.assertIsNotNone(ast.get_docstring(tree), path)
            for node in tree.body[1:]:
                self.assertIsInstance(node, (ast.ImportFrom, ast.FunctionDef, ast.ClassDef, ast.Assign), path)
                if isinstance(node, ast.Assign):
                    self.assertEqual(len(node.targets), 1)
                    ast.literal_eval(node.value)
            names = bound_names(path)
            self.assertEqual(len(names), len(set(names)), path)
            kinds = [isinstance(node, ast.ImportFrom) for node in tree.body[1:]]
            self.assertEqual(kinds, sorted(kinds, reverse=True), path)


class ImportsTest(unittest.TestCase):
    def test_they_name_the_file_that_defines(self):
        for path, node in nodes_of(ast.ImportFrom):
            self.assertEqual((node.level, node.module.split(".")[0]), (0, "framemoves"), path)
            tree = TREES[module_path(node.module)]
            imported = {name.name for part in tree.body if isinstance(part, ast.ImportFrom) for name in part.names}
            for name in node.names:
                self.assertIsNone(name.asname)
                self.assertIn(name.name, set(bound_names(module_path(node.module))) - imported, path)

    def test_they_are_used(self):
        for path, node in nodes_of(ast.ImportFrom):
            used = {part.id for part in ast.walk(TREES[path]) if isinstance(part, ast.Name)}
            for name in node.names:
                self.assertIn(name.name, used, path)

    def test_no_two_files_import_from_each_other(self):
        needs = {path: {module_path(node.module) for node in tree.body if isinstance(node, ast.ImportFrom)}
                 for path, tree in TREES.items()}
        while needs:
            free = [path for path in needs if not needs[path] & set(needs)]
            self.assertTrue(free, "files import from each other")
            needs = {path: needs[path] for path in needs if path not in free}


class StatementsTest(unittest.TestCase):
    def test_kinds_of_nodes(self):
        for path, node in nodes_of(ast.AST):
            self.assertIn(type(node).__name__, NODES, (path, getattr(node, "lineno", 0)))

    def test_constants(self):
        for path, tree in TREES.items():
            plain = docstrings(tree)
            for node in ast.walk(tree):
                if isinstance(node, ast.Constant):
                    self.assertIn(type(node.value), (int, str, bool, type(None)), path)
                    if isinstance(node.value, str):
                        self.assertNotIn("\t", node.value)
                    if isinstance(node.value, str) and node not in plain:
                        self.assertNotIn("%", node.value, path)
                        self.assertFalse(set(re.findall(r"\w+", node.value)) & NEVER_WORDS, path)
                        self.assertFalse(node.value.startswith("__") and node.value.endswith("__"), path)

    def test_comparisons_with_is(self):
        for path, node in nodes_of(ast.Compare):
            for sign, right in zip(node.ops, node.comparators):
                if isinstance(sign, (ast.Is, ast.IsNot)):
                    self.assertIsInstance(right, ast.Constant, (path, node.lineno))

    def test_sets_stand_only_where_they_may(self):
        for path, tree in TREES.items():
            allowed = {arg for node in ast.walk(tree) if isinstance(node, ast.Call) and isinstance(node.func, ast.Name)
                       and node.func.id in ("sorted", "len") and not node.keywords for arg in node.args}
            for node in ast.walk(tree):
                is_call = isinstance(node, ast.Call) and isinstance(node.func, ast.Name) and node.func.id == "set"
                if isinstance(node, ast.SetComp) or is_call:
                    self.assertIn(node, allowed, (path, node.lineno))

    def test_what_is_iterated_at_once(self):
        lazy = ("zip", "enumerate", "reversed", "range")
        takers = ("list", "tuple", "dict", "sorted", "sum", "enumerate", "zip")
        for path, tree in TREES.items():
            allowed = {node.iter for node in ast.walk(tree) if isinstance(node, (ast.For, ast.comprehension))}
            for node in ast.walk(tree):
                is_call = isinstance(node, ast.Call) and isinstance(node.func, ast.Name)
                if is_call and node.func.id in takers and node.args:
                    allowed.add(node.args[0])
            for node in ast.walk(tree):
                if isinstance(node, ast.Call) and isinstance(node.func, ast.Name) and node.func.id in lazy:
                    self.assertIn(node, allowed, (path, node.lineno))

    def test_errors(self):
        known = set(bound_names(FOLDER / "errors.py"))
        for path, node in nodes_of(ast.ExceptHandler):
            self.assertIn(node.type.id, known, path)
        for path, node in nodes_of(ast.Raise):
            if node.exc is not None:
                self.assertIn(node.exc.func.id, known, path)

    def test_classes(self):
        for path, node in nodes_of(ast.ClassDef):
            self.assertEqual(node.decorator_list, [])
            for part in node.body:
                if isinstance(part, ast.FunctionDef):
                    decorators = [name.id for name in part.decorator_list]
                    self.assertIn(decorators, ([], ["property"], ["staticmethod"]), (path, part.name))
                    if part.name.startswith("__"):
                        self.assertIn(part.name, DUNDERS, path)
                else:
                    self.assertIs(part, node.body[0], path)
        methods = [part for _, kind in nodes_of(ast.ClassDef) for part in kind.body]
        for path, node in nodes_of(ast.FunctionDef):
            if node not in methods:
                self.assertEqual((node.decorator_list, node.name.startswith("__")), ([], False), path)


def methods_of(changing):
    """The methods of the classes whose objects change, or of the other ones."""
    return [part for _, kind in nodes_of(ast.ClassDef) if (kind.name in CHANGING) == changing
            for part in kind.body if isinstance(part, ast.FunctionDef)]


def root_of(node):
    """The name at the beginning of an expression such as rows[0].table, or None."""
    while isinstance(node, (ast.Attribute, ast.Subscript, ast.Call)):
        node = node.func if isinstance(node, ast.Call) else node.value
    return getattr(node, "id", None)


class ChangesTest(unittest.TestCase):
    def test_no_function_changes_what_it_is_passed(self):
        changing = {"append", "clear", "extend", "insert", "pop", "remove", "reverse", "setdefault", "update"}
        owners = methods_of(True) + [node for node in methods_of(False) if node.name == "__init__"]
        for path, node in nodes_of(ast.FunctionDef):
            passed = {arg.arg for arg in node.args.args + node.args.kwonlyargs}
            if node in owners:
                passed.discard("self")
            for part in ast.walk(node):
                if isinstance(part, (ast.Subscript, ast.Attribute)) and isinstance(part.ctx, ast.Store):
                    self.assertNotIn(root_of(part), passed, (path, part.lineno))
                if isinstance(part, ast.Call) and isinstance(part.func, ast.Attribute) and part.func.attr in changing:
                    self.assertIsNotNone(root_of(part), (path, part.lineno))
                    self.assertNotIn(root_of(part), passed, (path, part.lineno))

    def test_operators_and_properties_change_nothing(self):
        named = {}
        for _, node in nodes_of(ast.FunctionDef):
            named.setdefault(node.name, []).append(node)
        ahead = [node for node in methods_of(False)
                 if node.decorator_list or node.name.startswith("__") and node.name not in ("__init__", "__call__")]
        met = []
        while ahead:
            node = ahead.pop()
            met.append(node)
            for part in ast.walk(node):
                if isinstance(part, ast.Call):
                    name = part.func.id if isinstance(part.func, ast.Name) else part.func.attr
                    self.assertNotIn(name, CHANGING, node.name)
                    ahead.extend(other for other in named.get(name, []) if other not in met)
        self.assertFalse(set(met) & set(methods_of(True)))


class NamesTest(unittest.TestCase):
    def test_names(self):
        for path, tree in TREES.items():
            outer = {node.name for node in tree.body if isinstance(node, ast.ClassDef)}
            outer |= {name.name for node in tree.body if isinstance(node, ast.ImportFrom) for name in node.names}
            names = [node for node in ast.walk(tree) if isinstance(node, ast.Name)]
            given = [node.id for node in names if isinstance(node.ctx, ast.Store)]
            given += [node.arg for node in ast.walk(tree) if isinstance(node, ast.arg)]
            functions = [node.name for node in tree.body if isinstance(node, (ast.FunctionDef, ast.ClassDef))]
            for name in given + functions:
                self.assertTrue(re.fullmatch(r"_|_?[A-Za-z][A-Za-z0-9_]*", name), (path, name))
                self.assertNotIn(name, set(dir(builtins)) - {"_"} | NEVER_NAMES, path)
            self.assertFalse(outer & set(given), path)
            for node in ast.walk(tree):
                if isinstance(node, ast.Name) and isinstance(node.ctx, ast.Load):
                    self.assertNotEqual(node.id, "_", path)
                    self.assertIn(node.id, set(given) | set(bound_names(path)) | BUILTINS, path)

    def test_attributes(self):
        stored, methods, properties = set(), set(), set()
        for _, node in nodes_of(ast.Attribute):
            if isinstance(node.ctx, ast.Store):
                stored.add(node.attr)
                self.assertIsInstance(node.value, ast.Name)
        for _, node in nodes_of(ast.ClassDef):
            for part in node.body:
                if isinstance(part, ast.FunctionDef):
                    (properties if part.decorator_list else methods).add(part.name)
        self.assertFalse(properties & methods)
        self.assertFalse(stored & (methods | properties))
        for name in stored | methods | properties:
            for kind in (str, int, list, dict, set, bytes, tuple):
                self.assertFalse(hasattr(kind, name) and name not in DUNDERS, name)
        called = {node.func for _, node in nodes_of(ast.Call) if isinstance(node.func, ast.Attribute)}
        for path, node in nodes_of(ast.Attribute):
            if node in called:
                self.assertIn(node.attr, METHODS | methods, (path, node.lineno))
            else:
                self.assertIn(node.attr, stored | properties, (path, node.lineno))

    def test_words(self):
        for path in FILES:
            text = re.sub(r"#.*", "", path.read_text())
            for word in ("dataclass", "overload", "contextmanager", "_wall", "_WallAttr"):
                self.assertNotIn(word, path.read_text(), path)
            self.assertFalse(set(re.findall(r"\w+", text)) & NEVER_WORDS, path)


if __name__ == "__main__":
    unittest.main()
