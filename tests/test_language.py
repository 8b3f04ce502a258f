"""The rules of the language that a look at the files of the package can see."""

import ast
import builtins
import os
import re
import unittest
import warnings

ROOT = os.path.dirname(os.path.dirname(os.path.abspath(__file__)))
FOLDER = os.path.join(ROOT, "levelgifts")
FILES = sorted(name for name in os.listdir(FOLDER) if name != "__pycache__")

# What may be read without being bound in the package (L8, and the decorators of L5).
BUILTINS = set(
    "len range enumerate zip min max sum abs sorted reversed int str bool bytes list tuple dict set frozenset isinstance "
    "ord repr any all divmod pow iter next map getattr hasattr setattr type super property staticmethod classmethod "
    "Exception ValueError TypeError KeyError IndexError LookupError ZeroDivisionError ArithmeticError OverflowError "
    "RuntimeError NotImplementedError AttributeError StopIteration NotImplemented".split()
)
LIBRARY = {"heapq", "math", "itertools", "collections"}
# The methods of builtin values (L25).
METHODS = set(
    "append clear copy count endswith extend find get index insert isalnum isalpha isdigit islower isspace isupper items "
    "join keys ljust lower lstrip partition pop remove replace reverse rfind rjust rpartition rsplit rstrip setdefault "
    "split splitlines startswith strip update upper values zfill bit_length".split()
)
# L17: names that stand nowhere, and names that are not bound.
NOWHERE = set("register mro elements open input law version_info with_traceback add_note".split())
UNBOUND = set("attrgetter builtins gc importlib methodcaller os sys".split()) | set(dir(builtins)) | NOWHERE
WORDS = (
    r"\b(typing|typing_extensions|enum|Enum|IntEnum|StrEnum|Flag|IntFlag|Generic|Protocol|ABC|ABCMeta|namedtuple|"
    r"NamedTuple|TypedDict|TYPE_CHECKING|abstractmethod)\b|dataclass|overload|contextmanager|\btype\b(?!\()"
)
# L5: the double-underscore methods.
DOUBLE = set("init eq repr str len enter exit call iter lt le gt ge ne and or sub bool contains getitem".split())
PLAIN = r"^_?[A-Za-z][A-Za-z0-9_]*$|^_$"


def source(name):
    with open(os.path.join(FOLDER, name), encoding="utf-8") as file:
        return file.read()


TREES = {name: ast.parse(source(name)) for name in FILES}


def nodes(kind):
    """All nodes of the kind in all files, with the names of the files."""
    return [(name, node) for name, tree in TREES.items() for node in ast.walk(tree) if isinstance(node, kind)]


def rows_of(tree, kind):
    """All nodes of the kind within the node."""
    return [node for node in ast.walk(tree) if isinstance(node, kind)]


def own_methods():
    """The names of all methods of the package."""
    return {row.name for name, node in nodes(ast.ClassDef) for row in node.body if isinstance(row, ast.FunctionDef)}


def top_names(tree):
    """The names that a file binds at module level, without those of imports."""
    found = [node.name for node in tree.body if isinstance(node, (ast.FunctionDef, ast.ClassDef))]
    return found + [node.targets[0].id for node in tree.body if isinstance(node, ast.Assign)]


def imported_names(tree):
    return [alias.name for node in tree.body if isinstance(node, ast.ImportFrom) for alias in node.names]


def inner_names(tree):
    """The names of the parameters and of the variables within functions."""
    top = [row.targets[0] for row in tree.body if isinstance(row, ast.Assign)]
    found = {node.arg for node in ast.walk(tree) if isinstance(node, ast.arg)}
    found |= {node.name for node in ast.walk(tree) if isinstance(node, ast.ExceptHandler) and node.name is not None}
    stored = [node for node in ast.walk(tree) if isinstance(node, ast.Name) and isinstance(node.ctx, ast.Store)]
    return found | {node.id for node in stored if node not in top}


class Files(unittest.TestCase):
    def test_the_folder_holds_nothing_else(self):
        for name in FILES:
            self.assertRegex(name, r"^[a-z_][a-z0-9_]*\.py$")
        self.assertIn("__init__.py", FILES)

    def test_characters_and_sizes(self):
        for name in FILES:
            text = source(name)
            self.assertTrue(all(sign == "\n" or " " <= sign <= "~" for sign in text), name)
            self.assertLess(len(text.splitlines()), 400, name)
            self.assertTrue(all(len(line) <= 120 for line in text.splitlines()), name)

    def test_no_warnings(self):
        with warnings.catch_warnings():
            warnings.simplefilter("error")
            for name in FILES:
                compile(source(name), name, "exec")

    def test_functions_have_at_most_40_lines(self):
        for name, node in nodes(ast.FunctionDef):
            self.assertLessEqual(node.end_lineno - node.lineno + 1, 40, node.name)

    def test_words(self):
        for name in FILES:
            bare = re.sub(r'""".*?"""|#[^"\n]*$', "", source(name), flags=re.DOTALL | re.MULTILINE)
            self.assertIsNone(re.search(WORDS, bare), name)

    def test_strings(self):
        for name, node in nodes(ast.Constant):
            self.assertNotIsInstance(node.value, (float, complex), name)
            if isinstance(node.value, str):
                self.assertNotIn("%", node.value, name)


class Imports(unittest.TestCase):
    def test_form(self):
        self.assertEqual(nodes(ast.Import), [])
        for name, node in nodes(ast.ImportFrom):
            self.assertEqual(node.level, 0)
            self.assertTrue(node.module.startswith("levelgifts.") or node.module in LIBRARY, node.module)
            self.assertTrue(all(alias.asname is None and alias.name != "*" for alias in node.names))
            self.assertIn(node, TREES[name].body)

    def test_from_the_file_that_defines_the_name(self):
        for name, node in nodes(ast.ImportFrom):
            if node.module not in LIBRARY:
                defined = top_names(TREES[node.module.split(".")[1] + ".py"])
                self.assertTrue(all(alias.name in defined for alias in node.names), node.module)

    def test_no_file_imports_itself_through_others(self):
        needs = {name: [] for name in FILES}
        for name, node in nodes(ast.ImportFrom):
            needs[name].append(node.module.split(".")[-1] + ".py")

        def reached(file, seen):
            for other in needs.get(file, []):
                if other not in seen:
                    seen.add(other)
                    reached(other, seen)
            return seen

        for file in FILES:
            self.assertNotIn(file, reached(file, set()))


class Names(unittest.TestCase):
    def test_module_level(self):
        for name, tree in TREES.items():
            for at, node in enumerate(tree.body):
                if at > 0 or not isinstance(node, ast.Expr):
                    self.assertIsInstance(node, (ast.ImportFrom, ast.FunctionDef, ast.ClassDef, ast.Assign), name)
            bound = top_names(tree) + imported_names(tree)
            self.assertEqual(len(bound), len(set(bound)), name)
            self.assertEqual(inner_names(tree) & set(bound), set(), name)

    def test_bound_names(self):
        for name, tree in TREES.items():
            for word in inner_names(tree) | set(top_names(tree)):
                self.assertNotIn(word, UNBOUND, name)
                self.assertRegex(word, PLAIN)

    def test_methods_and_attributes(self):
        for word in own_methods():
            if word.startswith("__"):
                self.assertIn(word.strip("_"), DOUBLE)
        stored = {node.attr for name, node in nodes(ast.Attribute) if isinstance(node.ctx, ast.Store)}
        for name, node in nodes(ast.Attribute):
            self.assertNotIn(node.attr, NOWHERE)
            # L8 lets `x.__class__.__name__` be read.
            known = stored | METHODS | own_methods() | {"__class__", "__name__"}
            self.assertIn(node.attr, known)

    def test_builtins(self):
        for name, tree in TREES.items():
            own = set(top_names(tree) + imported_names(tree)) | inner_names(tree)
            own |= {node.name for node in ast.walk(tree) if isinstance(node, ast.FunctionDef)}
            for node in ast.walk(tree):
                if isinstance(node, ast.Name) and node.id not in own:
                    self.assertIn(node.id, BUILTINS, name)


class Constructs(unittest.TestCase):
    def test_what_is_not_allowed(self):
        self.assertEqual(nodes((ast.AsyncFunctionDef, ast.Await, ast.Div)), [])
        for name, node in nodes(ast.FunctionDef):
            for mark in node.decorator_list:
                word = mark.attr if isinstance(mark, ast.Attribute) else mark.id
                self.assertIn(word, ("property", "setter", "staticmethod", "classmethod"))

    def test_lists_where_a_class_compares(self):
        for name, node in nodes(ast.Call):
            if isinstance(node.func, ast.Name) and node.func.id in ("any", "all", "min", "max", "sum", "sorted"):
                self.assertFalse(any(isinstance(part, ast.GeneratorExp) for part in node.args), name)

    def test_sets_are_not_kept_in_attributes_or_iterated(self):
        for name, node in nodes(ast.Call):
            for part in node.args:
                if isinstance(part, ast.Call) and isinstance(part.func, ast.Name) and part.func.id == "set":
                    self.assertIn(getattr(node.func, "id", None), ("sorted", "len"), name)

    def test_generators_are_iterated_at_once(self):
        yields = [(name, node) for name, node in nodes(ast.FunctionDef) if any(rows_of(node, (ast.Yield, ast.YieldFrom)))]
        words = [node.name for name, node in yields]
        every = [node.name for name, node in nodes(ast.FunctionDef)]
        self.assertTrue(all(every.count(word) == 1 and word not in METHODS for word in words))
        for name, node in yields:
            for block in rows_of(node, (ast.Try, ast.With)):
                self.assertEqual(rows_of(block, (ast.Yield, ast.YieldFrom)), [], node.name)
        iterated = [node.iter for name, node in nodes((ast.For, ast.comprehension))]
        iterated += [node.value for name, node in nodes(ast.YieldFrom)]
        for name, node in nodes(ast.Call):
            if isinstance(node.func, ast.Name) and node.func.id in ("list", "tuple", "enumerate", "zip"):
                iterated += node.args
        for name, node in nodes(ast.Name):
            if node.id in words:
                calls = [call for call in iterated if isinstance(call, ast.Call) and call.func is node]
                self.assertEqual(len(calls), 1, node.id)
                self.assertTrue(all(isinstance(part, (ast.Name, ast.Attribute, ast.Constant)) for part in calls[0].args))

    def test_errors_are_created_on_the_spot(self):
        for name, node in nodes(ast.Raise):
            self.assertTrue(node.exc is None or isinstance(node.exc, ast.Call), name)
        for name, node in nodes(ast.ExceptHandler):
            self.assertIsNotNone(node.type, name)

    def test_only_own_errors_are_caught(self):
        own = top_names(TREES["faults.py"])
        for name, node in nodes(ast.ExceptHandler):
            kinds = node.type.elts if isinstance(node.type, ast.Tuple) else [node.type]
            self.assertTrue(all(kind.id in own for kind in kinds), name)
            # A caught error is asked for the name of its class alone.
            used = [part for part in rows_of(node, ast.Name) if part.id == node.name]
            asked = [part.value.value for part in rows_of(node, ast.Attribute) if part.attr == "__name__"]
            self.assertTrue(all(part in asked for part in used), name)

    def test_names_of_classes(self):
        for name, node in nodes(ast.Attribute):
            if node.attr == "__name__":
                self.assertEqual(node.value.attr, "__class__", name)
                self.assertIsInstance(node.value.value, (ast.Name, ast.Attribute), name)
        classes = [node for name, node in nodes(ast.Attribute) if node.attr == "__class__"]
        self.assertEqual(len(classes), len([node for name, node in nodes(ast.Attribute) if node.attr == "__name__"]))

    def test_the_end_of_a_with_block(self):
        for name, node in nodes(ast.FunctionDef):
            if node.name == "__exit__":
                [test] = node.body
                self.assertEqual(ast.unparse(test.test), "kind is not None")
                for row in test.body:
                    self.assertIsInstance(row, ast.Assign)
                    self.assertIsInstance(row.targets[0], ast.Attribute)
                    self.assertIsInstance(row.value, ast.Attribute)

    def test_what_the_library_gives_is_called_at_once(self):
        words = {alias.name for name, node in nodes(ast.ImportFrom) if node.module in LIBRARY for alias in node.names}
        taken = [arg for name, node in nodes(ast.Call) if getattr(node.func, "id", None) in ("list", "sorted", "tuple")
                 for arg in node.args]
        for name, node in nodes(ast.Name):
            if node.id in words:
                self.assertTrue(any(isinstance(arg, ast.Call) and arg.func is node for arg in taken), name)

    def test_stars_stand_before_names_and_slices(self):
        for name, node in nodes(ast.Starred):
            self.assertIsInstance(node.value, (ast.Name, ast.Subscript), name)
