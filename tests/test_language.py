"""Rules of the language that can be told from the files of the package alone."""

import ast
import builtins
import io
import os
import re
import tokenize
import unittest

FOLDER = os.path.join(os.path.dirname(os.path.dirname(os.path.abspath(__file__))), "pairsums")
LIBRARY = {"heapq": {"heappush", "heappop", "heapify", "heapreplace", "heappushpop"},
           "math": {"gcd", "lcm", "isqrt", "comb", "perm", "factorial"},
           "itertools": {"product", "combinations", "permutations"}}
BUILTINS = set("""len range enumerate zip min max sum abs sorted reversed int str bool bytes list tuple dict set
    frozenset isinstance ord repr any all divmod iter next map super property staticmethod classmethod Exception
    ValueError TypeError KeyError IndexError LookupError ZeroDivisionError ArithmeticError OverflowError RuntimeError
    NotImplementedError AttributeError StopIteration NotImplemented""".split())
BARRED = set("""register mro elements open input law version_info with_traceback add_note attrgetter breakpoint builtins
    compile copyright credits delattr dir eval exec exit gc getattr globals hasattr help id importlib license locals
    methodcaller os quit setattr type vars sys""".split())
WORDS = re.compile(r"\b(type|typing|typing_extensions|enum|Enum|IntEnum|StrEnum|Flag|IntFlag|Generic|Protocol|ABC"
                   r"|ABCMeta|namedtuple|NamedTuple|TypedDict|TYPE_CHECKING|abstractmethod)\b"
                   r"|dataclass|overload|contextmanager")
DECORATORS = {"property", "staticmethod", "classmethod", "setter"}
METHODS = {"__init__", "__eq__", "__repr__", "__str__", "__len__", "__enter__", "__exit__", "__call__", "__iter__",
           "__bool__", "__contains__", "__getitem__", "__setitem__"}
NOT_ALLOWED = (ast.Global, ast.AsyncFunctionDef, ast.AsyncFor, ast.AsyncWith, ast.Await, ast.Div)


def package_files():
    return sorted(name for name in os.listdir(FOLDER) if name != "__pycache__")


def read(name):
    with open(os.path.join(FOLDER, name), encoding="utf-8", newline="") as file:
        return file.read()


def trees():
    """The files of the package, each with its text and its tree."""
    return [(name, read(name), ast.parse(read(name))) for name in package_files()]


def nodes():
    """All parts of all trees, each with its place."""
    return [(f"{name}, line {getattr(node, 'lineno', 0)}", node)
            for name, _, tree in trees() for node in ast.walk(tree)]


def names_given(node):
    """The names that this part gives to something."""
    if isinstance(node, ast.Name) and not isinstance(node.ctx, ast.Load):
        return [node.id]
    if isinstance(node, ast.arg):
        return [node.arg]
    return [node.name] if isinstance(node, (ast.FunctionDef, ast.ClassDef)) else []


def defined_in(tree):
    found = set()
    for node in tree.body:
        if isinstance(node, (ast.FunctionDef, ast.ClassDef)):
            found.add(node.name)
        elif isinstance(node, ast.Assign):
            found.add(node.targets[0].id)
    return found


def imported_by(tree):
    """Pairs of a module and a name."""
    return [(node.module, each.name) for node in ast.walk(tree) if isinstance(node, ast.ImportFrom)
            for each in node.names]


class Files(unittest.TestCase):
    def test_l1_l14_names(self):
        self.assertIn("__init__.py", package_files())
        for name in package_files():
            self.assertRegex(name, r"^([a-z][a-z0-9_]*|__init__|__main__)\.py$")
            stem = name[:-3]
            self.assertNotIn(stem, dir(builtins))
            self.assertFalse(stem in BARRED or re.match("law_|tests?$|testing$|test_|site$", stem), name)

    def test_l10_l14_size_and_characters(self):
        for name, text, _ in trees():
            self.assertTrue(all(sign == "\n" or " " <= sign <= "~" for sign in text), name)
            self.assertLessEqual(len(text.split("\n")), 400, name)
            self.assertLessEqual(max(len(line) for line in text.split("\n")), 120, name)
            self.assertTrue(text.endswith("\n"), name)

    def test_l2_l16_imports(self):
        defined = {"pairsums." + name[:-3]: defined_in(tree) for name, _, tree in trees()}
        for name, _, tree in trees():
            for node in ast.walk(tree):
                self.assertNotIsInstance(node, ast.Import, name)
                if isinstance(node, ast.ImportFrom):
                    self.assertTrue(node in tree.body and node.level == 0, name)
                    self.assertTrue(all(each.asname is None for each in node.names), name)
            for module, word in imported_by(tree):
                if module != "__future__":
                    self.assertIn(word, LIBRARY.get(module) or defined[module], name)

    def test_no_import_without_use(self):
        for name, _, tree in trees():
            used = {node.id for node in ast.walk(tree) if isinstance(node, ast.Name)}
            for _, word in imported_by(tree):
                self.assertIn(word, used, name)

    def test_l16_no_circles(self):
        needs = {name[:-3]: {module.split(".")[-1] for module, _ in imported_by(tree)} for name, _, tree in trees()}
        while needs:
            free = [name for name, others in needs.items() if not others & set(needs)]
            self.assertTrue(free, needs)
            needs = {name: others for name, others in needs.items() if name not in free}

    def test_l3_l15_module_level(self):
        for name, _, tree in trees():
            bound = [word for _, word in imported_by(tree)]
            for at, node in enumerate(tree.body):
                if isinstance(node, ast.Expr):
                    self.assertTrue(at == 0 and isinstance(node.value, ast.Constant), name)
                elif isinstance(node, ast.Assign):
                    self.assertEqual(len(node.targets), 1, name)
                    self.assertFalse([each for each in ast.walk(node.value) if isinstance(each, (ast.Call, ast.Set))])
                    bound.append(node.targets[0].id)
                elif not isinstance(node, ast.ImportFrom):
                    self.assertIsInstance(node, (ast.FunctionDef, ast.ClassDef), name)
                    bound.append(node.name)
            self.assertEqual(len(bound), len(set(bound)), name)

    def test_l15_no_local_name_of_an_import_or_a_class(self):
        for name, _, tree in trees():
            outer = {word for _, word in imported_by(tree)}
            outer |= {node.name for node in tree.body if isinstance(node, ast.ClassDef)}
            for node in ast.walk(tree):
                if not isinstance(node, ast.ClassDef):
                    self.assertFalse(outer & set(names_given(node)), name)

    def test_l17_l27_words_and_strings(self):
        for name, text, _ in trees():
            self.assertNotIn("_wall", text, name)
            for token in tokenize.generate_tokens(io.StringIO(text).readline):
                is_string = token.type == tokenize.STRING
                is_docstring = is_string and token.string.startswith('"""')
                if (token.type == tokenize.NAME or is_string) and not is_docstring:
                    self.assertIsNone(WORDS.search(token.string), (name, token))
                if is_string:
                    self.assertNotIn("%", token.string, name)
                    self.assertIsNone(re.search(r"\\[^nt\\'\"]", token.string), (name, token))


class Trees(unittest.TestCase):
    def test_l10_functions(self):
        for place, node in nodes():
            if isinstance(node, ast.FunctionDef):
                self.assertLessEqual(node.end_lineno - node.lineno + 1, 40, place)

    def test_l6_statements(self):
        for place, node in nodes():
            self.assertNotIsInstance(node, NOT_ALLOWED, place)
            if isinstance(node, ast.Constant):
                self.assertNotIsInstance(node.value, float, place)
            if isinstance(node, ast.ExceptHandler):
                self.assertIsNotNone(node.type, place)

    def test_l5_classes(self):
        for place, node in nodes():
            if isinstance(node, ast.ClassDef):
                self.assertEqual((node.decorator_list, node.keywords), ([], []), place)
            if isinstance(node, ast.FunctionDef):
                self.assertTrue(node.name in METHODS or not node.name.startswith("__"), place)
                self.assertLessEqual({ast.unparse(each).split(".")[-1] for each in node.decorator_list}, DECORATORS)

    def test_l7_no_generator_expressions_beside_eq(self):
        for place, node in nodes():
            self.assertNotIsInstance(node, ast.GeneratorExp, place)

    def test_l8_l12_l15_l17_names(self):
        known = set(dir(builtins))
        for place, node in nodes():
            if isinstance(node, ast.Name) and isinstance(node.ctx, ast.Load) and node.id in known:
                self.assertIn(node.id, BUILTINS, place)
            for name in names_given(node):
                self.assertFalse(name in known or name in BARRED, place)
                self.assertRegex(name, r"^(_?[A-Za-z][A-Za-z0-9_]*|_|__[a-z]+__)$", place)
                self.assertNotRegex(name, r"^(_wall|_pe_|_dcw_|_lay_|_law_|_stub_|_sre)", place)

    def test_l27_no_powers_of_two(self):
        for place, node in nodes():
            if isinstance(node, ast.BinOp) and isinstance(node.op, ast.Pow):
                self.assertIsInstance(node.right, ast.Constant, place)
                self.assertLessEqual(node.right.value, 64, place)
