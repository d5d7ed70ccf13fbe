"""The code of the package keeps to ../shared/LANGUAGE.md, as far as can be seen from its text."""

import ast
import builtins
import pathlib
import re
import unittest

PACKAGE = pathlib.Path(__file__).resolve().parent.parent / "tonguenest"

STATEMENTS = (
    ast.Module, ast.FunctionDef, ast.ClassDef, ast.ImportFrom, ast.Assign, ast.AugAssign, ast.If, ast.While, ast.For,
    ast.Return, ast.Break, ast.Continue, ast.Pass, ast.Raise, ast.Assert, ast.Delete, ast.Try, ast.Expr,
)
EXPRESSIONS = (
    ast.BinOp, ast.UnaryOp, ast.BoolOp, ast.Compare, ast.IfExp, ast.Call, ast.Attribute, ast.Subscript, ast.Slice,
    ast.Name, ast.Constant, ast.List, ast.Tuple, ast.Dict, ast.Set, ast.ListComp, ast.DictComp, ast.SetComp,
    ast.Lambda, ast.JoinedStr, ast.FormattedValue, ast.Starred,
)
# The rest of what Python's own reading of a file is made of.
OTHERS = (
    ast.expr_context, ast.operator, ast.unaryop, ast.boolop, ast.cmpop, ast.comprehension, ast.arguments, ast.arg,
    ast.keyword, ast.alias, ast.ExceptHandler,
)
BUILTINS = set(
    "len range enumerate zip min max sum abs sorted reversed int str bool bytes list tuple dict set frozenset "
    "isinstance ord repr any all divmod Exception ValueError TypeError KeyError IndexError LookupError "
    "ZeroDivisionError ArithmeticError OverflowError RuntimeError NotImplementedError AttributeError "
    "StopIteration".split()
)
METHODS = set(
    "append clear copy count endswith extend find get index insert isalnum isalpha isdigit islower isspace isupper "
    "items join keys ljust lower lstrip partition pop remove replace reverse rfind rjust rpartition rsplit rstrip "
    "setdefault split splitlines startswith strip update upper values zfill bit_length add discard sort".split()
)
DOUBLE = ("__init__", "__eq__", "__repr__", "__str__", "__len__")
BARRED_NAMES = set(
    "register mro elements open input version_info with_traceback add_note attrgetter breakpoint builtins compile "
    "copyright credits delattr dir eval exec exit gc getattr globals hasattr help id importlib license locals "
    "methodcaller os quit setattr super type vars sys".split()
)
BARRED_WORDS = re.compile(
    r"\b(type|typing|typing_extensions|enum|Enum|IntEnum|StrEnum|Flag|IntFlag|Generic|Protocol|ABC|ABCMeta|namedtuple"
    r"|NamedTuple|TypedDict|TYPE_CHECKING|abstractmethod)\b|dataclass|overload|contextmanager"
)


# What strings, numbers, lists, dicts, sets and bytes have; an own method may still be called like these of METHODS.
BUILTIN_ATTRIBUTES = {name for kind in (str, int, list, tuple, dict, set, bytes) for name in dir(kind)}
ATTRIBUTES_ALLOWED = set("count index title find get join lower upper split strip copy add".split())
# What these give is gone through where it stands.
ITERATED = ("zip", "enumerate", "reversed", "range", "items", "keys", "values")
ITERATING = ("list", "tuple", "dict", "sorted", "sum", "any", "all", "enumerate", "zip", "bytes", "min", "max", "join")


def called_name(node):
    """The name of what a call calls, or None."""
    if not isinstance(node, ast.Call):
        return None
    return getattr(node.func, "id", getattr(node.func, "attr", None))


def methods_of(tree):
    return {
        part.name for node in tree.body if isinstance(node, ast.ClassDef)
        for part in node.body if isinstance(part, ast.FunctionDef)
    }


def bound_names(tree):
    """The names that a file gives to something, with the lines of them."""
    for node in ast.walk(tree):
        if isinstance(node, (ast.FunctionDef, ast.ClassDef)):
            yield node.name, node.lineno
        elif isinstance(node, ast.arg):
            yield node.arg, node.lineno
        elif isinstance(node, ast.alias):
            yield node.asname or node.name, node.lineno
        elif isinstance(node, ast.ExceptHandler) and node.name:
            yield node.name, node.lineno
        elif isinstance(node, ast.Name) and not isinstance(node.ctx, ast.Load):
            yield node.id, node.lineno
        elif isinstance(node, ast.Attribute):
            yield node.attr, node.lineno


def is_docstring(node):
    return isinstance(node, ast.Expr) and isinstance(node.value, ast.Constant) and isinstance(node.value.value, str)


class LanguageTest(unittest.TestCase):
    def setUp(self):
        self.files = sorted(PACKAGE.glob("*.py"))
        self.texts = {path.name: path.read_text(encoding="utf-8") for path in self.files}
        self.trees = {name: ast.parse(text) for name, text in self.texts.items()}

    def nodes(self, *kinds):
        for name, tree in self.trees.items():
            for node in ast.walk(tree):
                if isinstance(node, kinds):
                    yield f"{name}:{getattr(node, 'lineno', 0)}", node

    def test_the_folder_holds_files_of_plain_names_alone(self):
        found = [path for path in PACKAGE.iterdir() if path.name != "__pycache__"]
        self.assertEqual(sorted(found), self.files)
        self.assertIn("__init__.py", self.texts)
        for name in self.texts:
            self.assertRegex(name, r"^(__init__|[a-z][a-z0-9_]*)\.py$")

    def test_sizes_and_characters(self):
        for name, text in self.texts.items():
            lines = text.split("\n")
            self.assertLessEqual(len(lines), 400, name)
            for number, line in enumerate(lines, 1):
                self.assertLessEqual(len(line), 120, f"{name}:{number}")
                self.assertTrue(all(" " <= sign <= "~" for sign in line), f"{name}:{number}")
                self.assertIsNone(BARRED_WORDS.search(line), f"{name}:{number}")
        for where, node in self.nodes(ast.FunctionDef):
            self.assertLessEqual(node.end_lineno - node.lineno + 1, 40, where)

    def test_statements_and_expressions(self):
        for where, node in self.nodes(ast.AST):
            self.assertIsInstance(node, STATEMENTS + EXPRESSIONS + OTHERS, where)
            self.assertNotIsInstance(node, (ast.Div, ast.MatMult), where)
        for where, node in self.nodes(ast.For, ast.While):
            self.assertEqual(node.orelse, [], where)
        for where, node in self.nodes(ast.comprehension):
            self.assertFalse(node.is_async, where)
        for where, node in self.nodes(ast.Expr):
            self.assertTrue(is_docstring(node) or isinstance(node.value, ast.Call), where)

    def test_module_level(self):
        for name, tree in self.trees.items():
            bound = []
            functions = set()
            for at, node in enumerate(tree.body):
                functions.update([node.name] if isinstance(node, ast.FunctionDef) else [])
                where = f"{name}:{node.lineno}"
                if at == 0:
                    self.assertTrue(is_docstring(node), where)
                else:
                    self.assertIsInstance(node, (ast.ImportFrom, ast.FunctionDef, ast.ClassDef, ast.Assign), where)
                if isinstance(node, ast.Assign):
                    self.check_plain(node.value, functions, where)
                    bound.extend(target.id for target in node.targets)
                elif isinstance(node, (ast.FunctionDef, ast.ClassDef)):
                    bound.append(node.name)
                elif isinstance(node, ast.ImportFrom):
                    bound.extend(alias.asname or alias.name for alias in node.names)
            self.assertEqual(len(bound), len(set(bound)), name)

    def check_plain(self, value, functions, where):
        """Checks that a value is written out, but for the functions that are defined above it."""
        for node in ast.walk(value):
            if isinstance(node, (ast.List, ast.Dict)):
                self.assertIs(node, value, where)
            if isinstance(node, ast.Name):
                self.assertIn(node.id, functions, where)
            elif isinstance(node, ast.expr):
                self.assertIsInstance(node, (ast.Constant, ast.List, ast.Tuple, ast.Dict, ast.UnaryOp), where)

    def test_tables_are_only_read(self):
        for name, tree in self.trees.items():
            tables = {target.id for node in tree.body if isinstance(node, ast.Assign)
                      and isinstance(node.value, (ast.List, ast.Dict)) for target in node.targets}
            read = set()
            for node in ast.walk(tree):
                if isinstance(node, ast.Subscript) and isinstance(node.ctx, ast.Load):
                    read.add(id(node.value))
                elif isinstance(node, ast.Attribute) and node.attr == "get":
                    read.add(id(node.value))
                elif isinstance(node, ast.Compare):
                    read.update(id(part) for part in node.comparators)
                elif isinstance(node, (ast.For, ast.comprehension)):
                    read.add(id(node.iter))
            for node in ast.walk(tree):
                if isinstance(node, ast.Name) and node.id in tables and isinstance(node.ctx, ast.Load):
                    self.assertIn(id(node), read, f"{name}:{node.lineno}")
            for node in ast.walk(tree):
                if isinstance(node, ast.Call):
                    self.assertIsInstance(node.func, (ast.Name, ast.Attribute), f"{name}:{node.lineno}")

    def test_imports(self):
        for where, node in self.nodes(ast.ImportFrom):
            self.assertEqual(node.level, 0, where)
            self.assertRegex(node.module, r"^tonguenest\.[a-z][a-z0-9_]*$", where)
            self.assertIn(node.module.split(".")[1] + ".py", self.texts, where)
            self.assertNotIn("*", [alias.name for alias in node.names], where)

    def test_functions_and_classes(self):
        for where, node in self.nodes(ast.arguments):
            self.assertEqual((node.vararg, node.kwarg, node.posonlyargs), (None, None, []), where)
        for where, node in self.nodes(ast.FunctionDef, ast.ClassDef):
            self.assertEqual(node.decorator_list, [], where)
        for where, node in self.nodes(ast.ClassDef):
            self.assertLessEqual(len(node.bases), 1, where)
            self.assertEqual(node.keywords, [], where)
            for part in node.body:
                self.assertTrue(is_docstring(part) or isinstance(part, ast.FunctionDef), where)

    def test_names(self):
        for name, tree in self.trees.items():
            for bound, line in bound_names(tree):
                where = f"{name}:{line} {bound}"
                self.assertTrue(bound in DOUBLE or re.fullmatch(r"[A-Za-z][A-Za-z0-9_]*", bound), where)
                self.assertNotIn(bound, BARRED_NAMES, where)
        for where, node in self.nodes(ast.Name):
            if hasattr(builtins, node.id):
                self.assertIn(node.id, BUILTINS, where)
                self.assertIsInstance(node.ctx, ast.Load, where)
        for where, node in self.nodes(ast.arg):
            self.assertFalse(hasattr(builtins, node.arg), where)

    def test_no_local_name_is_that_of_an_import_or_a_class_of_its_file(self):
        for name, tree in self.trees.items():
            taken = {alias.asname or alias.name for node in tree.body if isinstance(node, ast.ImportFrom)
                     for alias in node.names}
            taken |= {node.name for node in tree.body if isinstance(node, ast.ClassDef)}
            for node in ast.walk(tree):
                if isinstance(node, ast.Name) and isinstance(node.ctx, ast.Store):
                    self.assertNotIn(node.id, taken, f"{name}:{node.lineno}")
                if isinstance(node, ast.arg):
                    self.assertNotIn(node.arg, taken, f"{name}:{node.lineno}")

    def test_imports_name_the_file_that_defines_the_name_and_lead_in_no_circle(self):
        needs = {name: set() for name in self.trees}
        for name, tree in self.trees.items():
            for node in tree.body:
                if isinstance(node, ast.ImportFrom):
                    source = node.module.split(".")[1] + ".py"
                    needs[name].add(source)
                    defined = {part.name for part in self.trees[source].body
                               if isinstance(part, (ast.FunctionDef, ast.ClassDef))}
                    defined |= {target.id for part in self.trees[source].body if isinstance(part, ast.Assign)
                                for target in part.targets}
                    for alias in node.names:
                        self.assertIn(alias.name, defined, f"{name}:{node.lineno}")
        while needs:
            free = [name for name, sources in needs.items() if not sources & set(needs)]
            self.assertNotEqual(free, [], needs)
            for name in free:
                del needs[name]

    def test_own_methods_and_attributes(self):
        methods = set().union(*[methods_of(tree) for tree in self.trees.values()])
        called = {id(node.func) for where, node in self.nodes(ast.Call)}
        read = [(where, node) for where, node in self.nodes(ast.Attribute) if id(node) not in called]
        attributes = {node.attr for where, node in read if isinstance(node.ctx, ast.Store)}
        self.assertEqual(methods & attributes, set())
        self.assertEqual((methods - set(DOUBLE)) & (BUILTIN_ATTRIBUTES - METHODS), set())
        self.assertEqual(attributes & (BUILTIN_ATTRIBUTES - ATTRIBUTES_ALLOWED), set())
        for where, node in read:
            self.assertIn(node.attr, attributes, where)

    def test_own_functions_are_called_with_what_they_take(self):
        taken = {}
        for name, tree in self.trees.items():
            for node in tree.body:
                if isinstance(node, ast.FunctionDef):
                    taken[node.name] = len(node.args.args)
        for where, node in self.nodes(ast.Call):
            if isinstance(node.func, ast.Name) and node.func.id in taken:
                self.assertEqual(len(node.args) + len(node.keywords), taken[node.func.id], where)

    def test_what_is_to_be_gone_through_at_once_is(self):
        allowed = set()
        for where, node in self.nodes(ast.For, ast.comprehension):
            allowed.add(id(node.iter))
        for where, node in self.nodes(ast.Call):
            if called_name(node) in ITERATING:
                allowed.update(id(part) for part in node.args)
            if called_name(node) == "reversed" and called_name(node.args[0]) == "range":
                allowed.add(id(node.args[0]))
        for where, node in self.nodes(ast.Call):
            if called_name(node) in ITERATED:
                self.assertIn(id(node), allowed, where)

    def test_methods(self):
        own = {node.name for where, node in self.nodes(ast.FunctionDef)}
        for where, node in self.nodes(ast.Call):
            if isinstance(node.func, ast.Attribute):
                self.assertIn(node.func.attr, METHODS | own | {"__init__"}, where)

    def test_constants(self):
        for where, node in self.nodes(ast.Constant):
            self.assertIsInstance(node.value, (int, str, bytes, bool, None.__class__), where)
            if isinstance(node.value, str):
                self.assertNotIn("%", node.value, where)
        for name, text in self.texts.items():
            self.assertIsNone(re.search(r"\\[^nt\\\"']", text.replace("\\\\", "")), name)

    def test_is_stands_with_none_and_truths_alone(self):
        for where, node in self.nodes(ast.Compare):
            for sign, right in zip(node.ops, node.comparators):
                if isinstance(sign, (ast.Is, ast.IsNot)):
                    self.assertIsInstance(right, ast.Constant, where)
                    self.assertIn(right.value, (None, True, False), where)


if __name__ == "__main__":
    unittest.main()
