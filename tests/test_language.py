"""The rules of the language that can be seen from the shape of the files."""

import ast
import builtins
import pathlib
import re
import unittest

PACKAGE = pathlib.Path(__file__).resolve().parent.parent / "leastlore"
FILES = {path.stem: path.read_bytes() for path in sorted(PACKAGE.glob("*.py"))}
TREES = {name: ast.parse(text) for name, text in FILES.items()}

LET_BUILTINS = set("""
    len range enumerate zip min max sum abs sorted reversed int str bool list tuple dict set isinstance ord
    repr any all divmod ValueError KeyError iter next
""".split())
LET_METHODS = set("""
    append clear copy count endswith extend find get index insert isalnum isalpha isdigit islower isspace isupper
    items join keys ljust lower lstrip partition pop remove replace reverse rfind rjust rpartition rsplit rstrip
    setdefault split splitlines startswith strip update upper values zfill bit_length add discard
""".split())
BARRED = set("""
    register mro elements open input law version_info with_traceback add_note attrgetter breakpoint builtins
    compile copyright credits delattr dir eval exec exit gc getattr globals hasattr help id importlib license
    locals methodcaller os quit setattr super type vars sys format
""".split())
BARRED_WORDS = re.compile(
    r"\b(type|typing|enum|Enum|Flag|Generic|Protocol|ABC|namedtuple|TypedDict|abstractmethod)\b"
    r"|dataclass|overload|contextmanager"
)
LET_NODES = (ast.FunctionDef, ast.ClassDef, ast.Assign, ast.ImportFrom, ast.Expr)
BARRED_NODES = (
    ast.AsyncFunctionDef, ast.AsyncFor, ast.AsyncWith, ast.Await, ast.Global, ast.Import, ast.AnnAssign, ast.Div,
    ast.MatMult, ast.Set,
)


def bound_names(tree):
    """The names that a file's parameters, variables and handlers bind."""
    for node in ast.walk(tree):
        if isinstance(node, ast.arg):
            yield node.arg
        elif isinstance(node, ast.Name) and isinstance(node.ctx, ast.Store):
            yield node.id
        elif isinstance(node, ast.ExceptHandler) and node.name:
            yield node.name


def top_names(tree):
    """The names that a file defines itself, at module level."""
    for node in tree.body:
        if isinstance(node, (ast.FunctionDef, ast.ClassDef)):
            yield node.name
        elif isinstance(node, ast.Assign):
            yield node.targets[0].id


def imports_of(tree):
    return [node for node in ast.walk(tree) if isinstance(node, ast.ImportFrom)]


def docstrings(tree):
    found = set()
    for node in ast.walk(tree):
        if isinstance(node, (ast.Module, ast.FunctionDef, ast.ClassDef)):
            first = node.body[0]
            if isinstance(first, ast.Expr) and isinstance(first.value, ast.Constant):
                found.add(id(first.value))
    return found


class Language(unittest.TestCase):

    def test_files_characters_and_sizes(self):
        self.assertEqual([path.name for path in PACKAGE.iterdir() if path.suffix != ".py"
                          and path.name != "__pycache__"], [])
        for name, tree in TREES.items():
            text = FILES[name].decode("ascii")
            self.assertTrue(name == "__init__" or re.fullmatch("[a-z][a-z0-9_]*", name))
            self.assertEqual(set(text) - set(map(chr, range(32, 127))) - {"\n"}, set())
            self.assertLessEqual(len(text.splitlines()), 399)
            self.assertLessEqual(max(map(len, text.splitlines())), 120)
            for node in ast.walk(tree):
                if isinstance(node, ast.FunctionDef):
                    self.assertLessEqual(node.end_lineno - node.lineno + 1, 40, node.name)

    def test_imports_name_the_very_file_and_run_in_no_circle(self):
        seen = {}
        for name, tree in TREES.items():
            for node in imports_of(tree):
                self.assertRegex(node.module, r"^leastlore\.\w+$")
                self.assertIn(node, tree.body)
                source = node.module.split(".")[1]
                for alias in node.names:
                    self.assertIsNone(alias.asname)
                    self.assertIn(alias.name, set(top_names(TREES[source])))
                seen.setdefault(name, set()).add(source)
        ended = set()
        while len(ended) < len(TREES):
            more = {name for name in TREES if seen.get(name, set()) <= ended} - ended
            self.assertTrue(more, "imports run in a circle")
            ended |= more

    def test_module_level_and_statements(self):
        for tree in TREES.values():
            for at, node in enumerate(tree.body):
                self.assertIsInstance(node, LET_NODES)
                if isinstance(node, ast.Assign):
                    self.assertEqual(len(node.targets), 1)
                    ast.literal_eval(node.value)
                if isinstance(node, ast.Expr):
                    self.assertEqual(at, 0)
            for node in ast.walk(tree):
                self.assertNotIsInstance(node, BARRED_NODES)
                if isinstance(node, (ast.FunctionDef, ast.ClassDef)):
                    self.assertEqual(node.decorator_list, [])
                if isinstance(node, ast.Constant):
                    self.assertNotIsInstance(node.value, (float, complex, bytes))
                if isinstance(node, ast.Compare) and isinstance(node.ops[0], (ast.Is, ast.IsNot)):
                    self.assertIn(node.comparators[0].value, (None, True, False))

    def test_names(self):
        own = {node.name for tree in TREES.values() for node in ast.walk(tree)
               if isinstance(node, (ast.FunctionDef, ast.ClassDef))}
        for tree in TREES.values():
            imported = [alias.name for node in imports_of(tree) for alias in node.names]
            classes = [node.name for node in tree.body if isinstance(node, ast.ClassDef)]
            tops = [*imported, *top_names(tree)]
            self.assertEqual(len(tops), len(set(tops)))
            bound = set(bound_names(tree))
            locals_bound = bound - set(top_names(tree))
            self.assertEqual(locals_bound & {*imported, *classes}, set())
            self.assertEqual((bound | set(tops)) & set(dir(builtins)), set())
            self.assertEqual((bound | set(tops)) & BARRED, set())
            for node in ast.walk(tree):
                if isinstance(node, ast.FunctionDef) and node.name.startswith("__"):
                    self.assertEqual(node.name, "__init__")
                if isinstance(node, ast.Name) and isinstance(node.ctx, ast.Load):
                    if hasattr(builtins, node.id):
                        self.assertIn(node.id, LET_BUILTINS)
                if isinstance(node, ast.Call) and isinstance(node.func, ast.Attribute):
                    self.assertIn(node.func.attr, LET_METHODS | own)
                if isinstance(node, ast.Starred):
                    self.assertIsInstance(node.value, (ast.Name, ast.Attribute))
                if isinstance(node, ast.Attribute):
                    self.assertFalse(node.attr.startswith("__"))
                    self.assertNotIn(node.attr, BARRED)

    def test_methods_and_attributes_have_unlike_names(self):
        for tree in TREES.values():
            for node in tree.body:
                if isinstance(node, ast.ClassDef):
                    methods = {inner.name for inner in node.body if isinstance(inner, ast.FunctionDef)}
                    stored = {inner.attr for inner in ast.walk(node)
                              if isinstance(inner, ast.Attribute) and isinstance(inner.ctx, ast.Store)}
                    self.assertEqual(methods & stored, set())
                    self.assertEqual(stored & (LET_METHODS - {"count", "index", "find", "get", "copy", "add"}), set())

    def test_strings(self):
        for tree in TREES.values():
            documents = docstrings(tree)
            for node in ast.walk(tree):
                if isinstance(node, ast.Constant) and isinstance(node.value, str) and id(node) not in documents:
                    self.assertNotIn("%", node.value)
                    self.assertIsNone(BARRED_WORDS.search(node.value), node.value)

    def test_documents(self):
        for tree in TREES.values():
            # What the methods of every kind of rule tell stands at Rule, once for all.
            of_rules = [inner for node in tree.body if isinstance(node, ast.ClassDef)
                        and [base.id for base in node.bases] == ["Rule"] for inner in node.body]
            for node in ast.walk(tree):
                if isinstance(node, (ast.FunctionDef, ast.ClassDef, ast.Module)) and node not in of_rules:
                    self.assertTrue(ast.get_docstring(node) or getattr(node, "name", "") == "__init__", node)

    def test_handlers_name_own_errors(self):
        own = set(top_names(TREES["errors"])) | {"KeyError"}
        for tree in TREES.values():
            for node in ast.walk(tree):
                if isinstance(node, ast.ExceptHandler):
                    kinds = node.type.elts if isinstance(node.type, ast.Tuple) else [node.type]
                    for kind in kinds:
                        self.assertIn(kind.id, own)
