"""The form of the package's files: those rules of LANGUAGE.md that can be seen in a file's text and its tree.

What can't be seen so (that a def inside a def assigns nothing around it, that a comment says why) is left to the reader.
"""

import ast
import builtins
import os
import re
import unittest

ROOT = os.path.dirname(os.path.dirname(os.path.abspath(__file__)))
PACKAGE = os.path.join(ROOT, "quirehand")

STATEMENTS = (
    ast.Assign, ast.AugAssign, ast.If, ast.While, ast.For, ast.Return, ast.Break, ast.Continue, ast.Pass, ast.Raise,
    ast.Try, ast.Expr, ast.FunctionDef, ast.ClassDef, ast.ImportFrom,
)
EXPRESSIONS = (
    ast.Constant, ast.List, ast.Tuple, ast.Dict, ast.Set, ast.BinOp, ast.UnaryOp, ast.BoolOp, ast.Compare, ast.IfExp,
    ast.Call, ast.Attribute, ast.Subscript, ast.Slice, ast.ListComp, ast.JoinedStr, ast.FormattedValue, ast.Name,
    ast.Lambda,
)
PARTS = (
    ast.Module, ast.arguments, ast.arg, ast.keyword, ast.alias, ast.comprehension, ast.ExceptHandler,
    ast.expr_context, ast.boolop, ast.operator, ast.unaryop, ast.cmpop,
)
OWN_NAMES = set("""
    len range enumerate zip min max sum abs sorted reversed int str bool list tuple dict set frozenset isinstance ord
    repr any all divmod Exception ValueError TypeError KeyError IndexError LookupError ZeroDivisionError ArithmeticError
    OverflowError RuntimeError NotImplementedError AttributeError StopIteration
""".split())
OWN_METHODS = set("""
    append clear copy count endswith extend find get index insert isalnum isalpha isdigit islower isspace isupper items
    join keys ljust lower lstrip partition pop remove replace reverse rfind rjust rpartition rsplit rstrip setdefault
    split splitlines startswith strip update upper values zfill bit_length add discard
""".split())
UNUSED_NAMES = set("""
    register mro elements open input version_info with_traceback add_note attrgetter breakpoint builtins compile
    copyright credits delattr dir eval exec exit gc getattr globals hasattr help id importlib license locals methodcaller
    os quit setattr super type vars sys chr format format_map
""".split())
UNUSED_WORDS = re.compile(
    r"\b(type|typing|typing_extensions|enum|Enum|IntEnum|StrEnum|Flag|IntFlag|Generic|Protocol|ABC|ABCMeta|namedtuple"
    r"|NamedTuple|TypedDict|TYPE_CHECKING|abstractmethod)\b|dataclass|overload|contextmanager"
)
NAMES_OF_TWO_UNDERSCORES = ("__init__", "__eq__", "__repr__", "__str__", "__len__", "__all__", "__version__")
PYTHONS_VALUES = (str, int, list, dict, set, tuple, bytes)


def package_files():
    return sorted([name for name in os.listdir(PACKAGE) if name != "__pycache__"])


def text_of(name):
    with open(os.path.join(PACKAGE, name), encoding="utf-8", newline="") as file:
        return file.read()


def tree_of(name):
    return ast.parse(text_of(name))


def imports_of(tree):
    return [node for node in tree.body if isinstance(node, ast.ImportFrom)]


def names_at_top(tree):
    names = []
    for node in tree.body:
        if isinstance(node, (ast.FunctionDef, ast.ClassDef)):
            names.append(node.name)
        elif isinstance(node, ast.Assign):
            names.extend([target.id for target in node.targets])
        elif isinstance(node, ast.ImportFrom):
            names.extend([part.asname or part.name for part in node.names])
    return names


def names_given(tree):
    """Each name that the file gives a meaning, but those of imports."""
    for node in ast.walk(tree):
        if isinstance(node, (ast.FunctionDef, ast.ClassDef)):
            yield node.name
        elif isinstance(node, ast.arg):
            yield node.arg
        elif isinstance(node, ast.Name) and isinstance(node.ctx, ast.Store):
            yield node.id
        elif isinstance(node, ast.ExceptHandler) and node.name:
            yield node.name
        elif isinstance(node, ast.Attribute) and isinstance(node.ctx, ast.Store):
            yield node.attr


def is_module_docstring(tree, node):
    return tree.body and tree.body[0] is node and isinstance(getattr(node.value, "value", None), str)


def nodes_of(kind):
    """The nodes of this kind in all files, each with the place at which it stands."""
    nodes = []
    for name in package_files():
        for node in ast.walk(tree_of(name)):
            if isinstance(node, kind):
                line = getattr(node, "lineno", 0)
                nodes.append((f"{name}, line {line}", node))
    return nodes


def with_parents(name):
    """Each node of a file's tree with the nodes above it, the nearest one first."""
    pairs = []

    def walk(node, above):
        pairs.append((node, above))
        for child in ast.iter_child_nodes(node):
            walk(child, [node] + above)

    walk(tree_of(name), [])
    return pairs


def called(node):
    """The name of what a call calls, with a point ahead of it where it is a method; None of other nodes."""
    if not isinstance(node, ast.Call):
        return None
    if isinstance(node.func, ast.Name):
        return node.func.id
    if isinstance(node.func, ast.Attribute):
        return "." + node.func.attr
    return None


def is_walked_at_once(node, parent):
    if isinstance(parent, (ast.For, ast.comprehension)):
        return parent.iter is node
    if called(parent) in ("list", "tuple", "dict", "sorted", "sum", "any", "all", "enumerate", "zip"):
        return parent.args[0] is node
    if called(parent) in ("min", "max"):
        return parent.args == [node]
    return called(parent) == ".join" and isinstance(parent.func.value, ast.Constant)


def is_set_in_place(parents):
    for parent in parents:
        if isinstance(parent, ast.Compare):
            return all([isinstance(sign, (ast.In, ast.NotIn, ast.Eq, ast.NotEq)) for sign in parent.ops])
        if called(parent) in ("sorted", "len"):
            return parent.keywords == []
        if not isinstance(parent, ast.BinOp):
            return False
    return False


def locals_of(tree):
    """Each name that is given a meaning below the file's top, as a parameter, a local or in a walk."""
    names = []
    for part in tree.body:
        if isinstance(part, (ast.FunctionDef, ast.ClassDef)):
            for node in ast.walk(part):
                if isinstance(node, ast.arg):
                    names.append(node.arg)
                elif isinstance(node, ast.Name) and isinstance(node.ctx, ast.Store):
                    names.append(node.id)
                elif isinstance(node, ast.ExceptHandler) and node.name:
                    names.append(node.name)
    return names


class LanguageTest(unittest.TestCase):
    def test_files(self):
        self.assertIn("__init__.py", package_files())
        for name in package_files():
            with self.subTest(file=name):
                self.assertRegex(name, r"^([a-z][a-z0-9_]*|__init__)\.py$")
                self.assertNotRegex(name, r"^(test|tests|testing|test_.*|site|conftest|sitecustomize|usercustomize)\.py$")
                self.assertNotIn(name[:-len(".py")], dir(builtins))

    def test_signs_and_sizes(self):
        for name in package_files():
            text = text_of(name)
            with self.subTest(file=name):
                self.assertRegex(text, r"\A[ -~\n]*\Z")
                self.assertLessEqual(text.count("\n"), 400)
                self.assertLessEqual(max([len(line) for line in text.split("\n")]), 120)
        for place, node in nodes_of(ast.FunctionDef):
            with self.subTest(place=place):
                self.assertLessEqual(node.end_lineno - node.lineno + 1, 40)

    def test_words_that_stand_nowhere(self):
        for name in package_files():
            with self.subTest(file=name):
                self.assertIsNone(UNUSED_WORDS.search(text_of(name)))

    def test_statements_and_expressions(self):
        for place, node in nodes_of(ast.AST):
            with self.subTest(place=place):
                self.assertIsInstance(node, STATEMENTS + EXPRESSIONS + PARTS)
                self.assertNotIsInstance(node, (ast.Div, ast.MatMult))

    def test_a_statement_by_itself_is_a_call(self):
        for name in package_files():
            tree = tree_of(name)
            for node in ast.walk(tree):
                if isinstance(node, ast.Expr) and not is_module_docstring(tree, node):
                    with self.subTest(file=name, line=node.lineno):
                        self.assertIsInstance(node.value, ast.Call)

    def test_assignments_and_loops(self):
        for place, node in nodes_of(ast.Assign):
            with self.subTest(place=place):
                self.assertEqual(len(node.targets), 1)
        for place, node in nodes_of((ast.For, ast.While)):
            with self.subTest(place=place):
                self.assertEqual(node.orelse, [])
        for place, node in nodes_of(ast.ListComp):
            with self.subTest(place=place):
                self.assertEqual(len(node.generators), 1)
                self.assertLessEqual(len(node.generators[0].ifs), 1)

    def test_defs_and_classes(self):
        for place, node in nodes_of(ast.FunctionDef):
            with self.subTest(place=place):
                self.assertEqual(node.decorator_list, [])
                self.assertIsNone(node.returns)
        for place, node in nodes_of(ast.arguments):
            with self.subTest(place=place):
                self.assertEqual([node.vararg, node.kwarg, node.kwonlyargs, node.posonlyargs], [None, None, [], []])
        for place, node in nodes_of(ast.ClassDef):
            with self.subTest(place=place):
                self.assertEqual(node.decorator_list, [])
                self.assertEqual(node.keywords, [])
                self.assertLessEqual(len(node.bases), 1)
                for part in node.body:
                    self.assertIsInstance(part, (ast.FunctionDef, ast.Pass))

    def test_the_top_of_a_file(self):
        kinds = (ast.Expr, ast.ImportFrom, ast.Assign, ast.FunctionDef, ast.ClassDef)
        for name in package_files():
            tree = tree_of(name)
            with self.subTest(file=name):
                names = names_at_top(tree)
                self.assertEqual(len(names), len(set(names)))
                for node in tree.body:
                    self.assertIsInstance(node, kinds)
                self.assertIsNotNone(ast.get_docstring(tree))
                inner = [node for part in tree.body for node in ast.walk(part) if node is not part]
                self.assertFalse([node for node in inner if isinstance(node, (ast.ClassDef, ast.ImportFrom))])

    def test_imports_come_from_the_files_that_define_the_names(self):
        for name in package_files():
            tree = tree_of(name)
            with self.subTest(file=name):
                for node in imports_of(tree):
                    self.assertEqual(node.level, 0)
                    self.assertRegex(node.module, r"^quirehand\.[a-z][a-z0-9_]*$")
                    source = tree_of(node.module[len("quirehand."):] + ".py")
                    defined = set(names_at_top(source)) - set(
                        [part.name for taken in imports_of(source) for part in taken.names])
                    for part in node.names:
                        self.assertIn(part.name, defined)

    def test_no_two_files_draw_from_one_another(self):
        drawn = {}
        for name in package_files():
            drawn[name] = set([node.module.split(".")[-1] + ".py" for node in imports_of(tree_of(name))])
        self.assertEqual(drawn["__init__.py"], set())
        while drawn:
            free = [name for name in drawn if not drawn[name] & set(drawn)]
            self.assertTrue(free, "these draw from one another: " + ", ".join(drawn))
            for name in free:
                del drawn[name]

    def test_names(self):
        for name in package_files():
            for given in names_given(tree_of(name)):
                with self.subTest(file=name, name=given):
                    if given not in NAMES_OF_TWO_UNDERSCORES:
                        self.assertRegex(given, r"^[A-Za-z][A-Za-z0-9_]*$")
                    self.assertNotIn(given, UNUSED_NAMES)
        for place, node in nodes_of(ast.arg):
            with self.subTest(place=place):
                self.assertNotIn(node.arg, dir(builtins))
        for place, node in nodes_of(ast.Name):
            with self.subTest(place=place):
                self.assertNotIn(node.id, UNUSED_NAMES)
                if node.id in dir(builtins):
                    self.assertIn(node.id, OWN_NAMES)
                    self.assertIsInstance(node.ctx, ast.Load)

    def test_methods_of_pythons_own_values(self):
        for place, node in nodes_of(ast.Attribute):
            with self.subTest(place=place):
                self.assertNotIn(node.attr, UNUSED_NAMES)
                if any([hasattr(kind, node.attr) for kind in PYTHONS_VALUES]):
                    self.assertIn(node.attr, OWN_METHODS | {"__init__"})

    def test_methods_are_called_where_they_stand(self):
        for name in package_files():
            methods = OWN_METHODS | set(
                [part.name for kind in tree_of(name).body if isinstance(kind, ast.ClassDef) for part in kind.body
                 if isinstance(part, ast.FunctionDef)])
            for node, parents in with_parents(name):
                if isinstance(node, ast.Attribute) and node.attr in methods:
                    with self.subTest(file=name, line=node.lineno):
                        self.assertIsInstance(parents[0], ast.Call)
                        self.assertIs(parents[0].func, node)

    def test_locals_are_not_called_like_classes_or_imports(self):
        for name in package_files():
            tree = tree_of(name)
            taken = [part.name for node in imports_of(tree) for part in node.names]
            taken += [node.name for node in tree.body if isinstance(node, ast.ClassDef)]
            with self.subTest(file=name):
                self.assertEqual(set(locals_of(tree)) & set(taken), set())

    def test_no_name_is_a_method_here_and_a_value_there(self):
        methods = set()
        for place, node in nodes_of(ast.ClassDef):
            names = [part.name for part in node.body if isinstance(part, ast.FunctionDef)]
            self.assertEqual(len(names), len(set(names)), place)
            methods |= set(names)
        values = [node.attr for place, node in nodes_of(ast.Attribute) if isinstance(node.ctx, ast.Store)]
        self.assertEqual(methods & set(values), set())
        for value in values:
            self.assertFalse(any([hasattr(kind, value) for kind in PYTHONS_VALUES]), value)

    def test_walked_at_once(self):
        for name in package_files():
            for node, parents in with_parents(name):
                if called(node) in ("zip", "enumerate", "reversed", "range", ".items", ".keys", ".values"):
                    with self.subTest(file=name, line=node.lineno):
                        self.assertTrue(is_walked_at_once(node, parents[0]))

    def test_sets_are_not_kept(self):
        for name in package_files():
            for node, parents in with_parents(name):
                if isinstance(node, ast.Set) or called(node) in ("set", "frozenset"):
                    with self.subTest(file=name, line=node.lineno):
                        self.assertTrue(is_set_in_place(parents))

    def test_keywords(self):
        good = {
            "sorted": ("key", "reverse"), "min": ("key", "default"), "max": ("key", "default"), "sum": ("start",),
            "enumerate": ("start",), "zip": ("strict",),
        }
        for place, node in nodes_of(ast.Call):
            with self.subTest(place=place):
                for part in node.keywords:
                    self.assertIn(part.arg, good.get(called(node), ()))

    def test_an_assignment_gives_one_name(self):
        for place, node in nodes_of(ast.Assign):
            with self.subTest(place=place):
                self.assertIsInstance(node.targets[0], (ast.Name, ast.Attribute, ast.Subscript))

    def test_values(self):
        for place, node in nodes_of(ast.Constant):
            with self.subTest(place=place):
                self.assertIsInstance(node.value, (int, str, bool, type(None)))
                if isinstance(node.value, str):
                    self.assertNotIn("%", node.value)
        for place, node in nodes_of(ast.FormattedValue):
            with self.subTest(place=place):
                self.assertIsInstance(node.value, ast.Name)
                self.assertIn(node.conversion, (-1, ord("r")))
                self.assertIsNone(node.format_spec)
        for place, node in nodes_of(ast.Compare):
            with self.subTest(place=place):
                if any([isinstance(sign, (ast.Is, ast.IsNot)) for sign in node.ops]):
                    ends = [part.value for part in [node.left] + node.comparators if isinstance(part, ast.Constant)]
                    self.assertTrue(any([end is None or end is True or end is False for end in ends]))

    def test_errors_are_named(self):
        for place, node in nodes_of(ast.Try):
            with self.subTest(place=place):
                self.assertEqual(node.finalbody, [])
        for place, node in nodes_of(ast.ExceptHandler):
            with self.subTest(place=place):
                kinds = node.type.elts if isinstance(node.type, ast.Tuple) else [node.type]
                for kind in kinds:
                    self.assertIsInstance(kind, ast.Name)
                    self.assertNotIn(kind.id, ("Exception", "TypeError"))


if __name__ == "__main__":
    unittest.main()
