"""That the package keeps to the part of Python that is agreed for it, as far as its rules can be seen by a reader."""

import ast
import builtins
import os
import re
import unittest

PACKAGE = "bitlead"
FOLDER = os.path.join(os.path.dirname(os.path.dirname(os.path.abspath(__file__))), PACKAGE)

STATEMENTS = (ast.Assign, ast.AugAssign, ast.If, ast.While, ast.For, ast.Return, ast.Break, ast.Continue, ast.Pass,
              ast.Raise, ast.Try, ast.Expr, ast.FunctionDef, ast.ClassDef, ast.ImportFrom)
REFUSED = (ast.Div, ast.Set, ast.SetComp, ast.DictComp, ast.GeneratorExp, ast.NamedExpr, ast.Starred, ast.Yield,
           ast.YieldFrom, ast.Await, ast.MatMult)
OWN_NAMES = """len range enumerate zip min max sum abs sorted reversed int str bool list tuple dict set frozenset
    isinstance ord repr any all divmod Exception ValueError KeyError ZeroDivisionError StopIteration LookupError
    IndexError""".split()
METHODS = """append clear copy count endswith extend find get index insert isalnum isalpha isdigit islower isspace
    isupper items join keys ljust lower lstrip partition pop remove replace reverse rfind rjust rpartition rsplit
    rstrip setdefault split splitlines startswith strip update upper values zfill bit_length __init__""".split()
WORDS_OUT = """type typing typing_extensions enum Enum IntEnum StrEnum Flag IntFlag Generic Protocol ABC ABCMeta
    namedtuple NamedTuple TypedDict TYPE_CHECKING abstractmethod""".split()
WORDS_OUT_WITHIN = ("dataclass", "overload", "contextmanager")
WALKERS = ("zip", "enumerate", "reversed", "range")
WALKED_METHODS = ("items", "keys", "values")
NAMES_OUT = ("register", "mro", "elements", "open", "input", "version_info", "with_traceback", "add_note")


def files():
    # Python may lay its own folder there when the tests are run by hand; it is never committed.
    return sorted(name for name in os.listdir(FOLDER) if name != "__pycache__")


def text_of(name):
    with open(os.path.join(FOLDER, name), encoding="utf-8", newline="") as file:
        return file.read()


def tree_of(name):
    return ast.parse(text_of(name))


def is_call_of(node, names):
    return isinstance(node, ast.Call) and isinstance(node.func, ast.Name) and node.func.id in names


def is_walker(node):
    if is_call_of(node, WALKERS):
        return True
    return isinstance(node, ast.Call) and isinstance(node.func, ast.Attribute) and node.func.attr in WALKED_METHODS


def walked_here(node):
    # The parts of a node where a walker may stand.
    if isinstance(node, (ast.For, ast.comprehension)):
        return [node.iter]
    if is_call_of(node, ("zip", "enumerate")):
        return node.args
    if is_call_of(node, ("list", "tuple", "dict", "sorted", "sum", "any", "all")):
        return node.args[:1]
    if is_call_of(node, ("min", "max")) and len(node.args) == 1:
        return node.args
    return []


def bound_names(tree):
    for node in ast.walk(tree):
        if isinstance(node, (ast.FunctionDef, ast.ClassDef)):
            yield node.name
        if isinstance(node, ast.arg):
            yield node.arg
        if isinstance(node, ast.Name) and isinstance(node.ctx, ast.Store):
            yield node.id


def draws_from(tree):
    return [node.module for node in ast.walk(tree) if isinstance(node, ast.ImportFrom)]


class Language(unittest.TestCase):
    def each_node(self):
        for name in files():
            for node in ast.walk(tree_of(name)):
                yield f"{name}:{getattr(node, 'lineno', 0)}", node

    def test_files(self):
        self.assertIn("__init__.py", files())
        for name in files():
            self.assertRegex(name, r"^[a-z0-9_]+\.py$")
            self.assertFalse(name.startswith("test"), name)
            self.assertNotIn(name[:-3], dir(builtins))

    def test_signs_and_sizes(self):
        for name in files():
            text = text_of(name)
            self.assertRegex(text, r"\A[\n -~]*\Z", name)
            self.assertLessEqual(len(text.split("\n")), 400, name)
            for row in text.split("\n"):
                self.assertLessEqual(len(row), 120, name)
            for node in ast.walk(tree_of(name)):
                if isinstance(node, ast.FunctionDef):
                    self.assertLessEqual(node.end_lineno - node.lineno + 1, 40, (name, node.name))

    def test_words_that_stand_nowhere(self):
        for name in files():
            words = set(re.findall(r"\w+", text_of(name)))
            self.assertEqual(words & set(WORDS_OUT), set(), name)
            for part in WORDS_OUT_WITHIN:
                self.assertNotIn(part, text_of(name), name)

    def test_statements_and_expressions(self):
        for where, node in self.each_node():
            if isinstance(node, ast.stmt):
                self.assertIsInstance(node, STATEMENTS, where)
            self.assertNotIsInstance(node, REFUSED, where)
            if isinstance(node, ast.Assign):
                self.assertEqual(len(node.targets), 1, where)
            if isinstance(node, (ast.For, ast.While)):
                self.assertEqual(node.orelse, [], where)
            if isinstance(node, ast.Try):
                self.assertEqual(node.finalbody, [], where)
            if isinstance(node, ast.Constant):
                self.assertIn(type(node.value), (int, str, bool, type(None)), where)
            if isinstance(node, ast.ListComp):
                self.assertEqual(len(node.generators), 1, where)
                self.assertLessEqual(len(node.generators[0].ifs), 1, where)
            if isinstance(node, ast.BinOp) and isinstance(node.op, ast.Pow):
                self.assertIsInstance(node.right, ast.Constant, where)
            if isinstance(node, ast.Compare):
                self.check_is(where, node)

    def check_is(self, where, node):
        for sort, right in zip(node.ops, node.comparators):
            if isinstance(sort, (ast.Is, ast.IsNot)):
                self.assertTrue(isinstance(right, ast.Constant) and right.value in (None, True, False), where)

    def test_functions_and_classes_are_plain(self):
        for where, node in self.each_node():
            if isinstance(node, (ast.FunctionDef, ast.ClassDef)):
                self.assertEqual(node.decorator_list, [], where)
            if isinstance(node, ast.arguments):
                self.assertEqual((node.vararg, node.kwarg, node.kwonlyargs, node.posonlyargs), (None, None, [], []))
            if isinstance(node, ast.ClassDef):
                self.assertLessEqual(len(node.bases), 1, where)
                for part in node.body:
                    self.assertIsInstance(part, (ast.FunctionDef, ast.Pass), where)

    def test_names(self):
        for name in files():
            tree = tree_of(name)
            own = [part.name for part in ast.walk(tree) if isinstance(part, ast.alias)]
            for bound in bound_names(tree):
                self.assertTrue(bound == "__init__" or re.match(r"[A-Za-z][A-Za-z0-9_]*\Z", bound), (name, bound))
                self.assertNotIn(bound, dir(builtins), name)
                self.assertNotIn(bound, own, name)
                self.assertNotIn(bound, NAMES_OUT, name)

    def test_pythons_own_names(self):
        for name in files():
            for node in ast.walk(tree_of(name)):
                if isinstance(node, ast.Name) and node.id in dir(builtins):
                    self.assertIn(node.id, OWN_NAMES, name)

    def test_methods(self):
        for where, node in self.each_node():
            if isinstance(node, ast.Call) and isinstance(node.func, ast.Attribute):
                self.assertIn(node.func.attr, METHODS, where)

    def test_what_is_walked_is_walked_at_once(self):
        for name in files():
            nodes = list(ast.walk(tree_of(name)))
            fine = [part for node in nodes for part in walked_here(node)]
            for node in nodes:
                self.assertTrue(not is_walker(node) or node in fine, f"{name}:{getattr(node, 'lineno', 0)}")

    def test_nothing_stands_by_itself_but_a_call(self):
        for name in files():
            tree = tree_of(name)
            self.assertIsNotNone(ast.get_docstring(tree), name)
            for node in ast.walk(tree):
                if isinstance(node, ast.Expr) and node is not tree.body[0]:
                    self.assertIsInstance(node.value, ast.Call, f"{name}:{node.lineno}")

    def test_imports(self):
        for name in files():
            for node in tree_of(name).body:
                if isinstance(node, ast.ImportFrom):
                    self.assertEqual(node.level, 0, name)
                    drawn = node.module.split(".")
                    self.assertEqual((len(drawn), drawn[0]), (2, PACKAGE), name)
                    there = [part.name for part in tree_of(drawn[1] + ".py").body if hasattr(part, "name")]
                    there += [part.targets[0].id for part in tree_of(drawn[1] + ".py").body
                              if isinstance(part, ast.Assign)]
                    for alias in node.names:
                        self.assertIn(alias.name, there, name)
        self.assertEqual(draws_from(tree_of("__init__.py")), [])

    def test_no_two_files_draw_from_one_another(self):
        left = {f"{PACKAGE}.{name[:-3]}": draws_from(tree_of(name)) for name in files()}
        while left:
            free = [name for name in left if not [other for other in left[name] if other in left]]
            self.assertNotEqual(free, [], sorted(left))
            left = {name: left[name] for name in left if name not in free}


if __name__ == "__main__":
    unittest.main()
