"""The rules of the language that a look at the files alone can tell."""

import ast
import builtins
import pathlib
import re
import unittest

import shortestbytes

FOLDER = pathlib.Path(shortestbytes.__file__).parent
LIBRARY = {
    "heapq": {"heappush", "heappop", "heapify", "heapreplace", "heappushpop"},
    "math": {"gcd", "lcm", "isqrt", "comb", "perm", "factorial"},
    "itertools": {
        "product", "combinations", "permutations", "chain", "accumulate", "pairwise", "islice", "zip_longest",
    },
    "collections": {"defaultdict"},
}
BUILTINS = set("""
    len range enumerate zip min max sum abs sorted reversed int str bool bytes list tuple dict set frozenset isinstance ord
    repr any all divmod pow getattr hasattr setattr iter next map Exception ValueError TypeError KeyError IndexError
    LookupError ZeroDivisionError ArithmeticError OverflowError RuntimeError NotImplementedError AttributeError StopIteration
    NotImplemented super property staticmethod classmethod
""".split())
DUNDERS = set("""
    init eq repr str len enter exit call iter lt le gt ge ne add sub mul floordiv mod pow and or xor lshift rshift neg pos
    invert abs bool contains getitem setitem
""".split())
BARRED_ATTRIBUTES = set("""
    items keys values pop update append clear extend insert remove reverse setdefault sort args encode decode hex fromhex
    format format_map mro register elements law as_integer_ratio bit_count conjugate from_bytes is_integer to_bytes
    real imag numerator denominator
""".split())
BARRED_WORDS = re.compile(r"""\b(
    typing|typing_extensions|enum|Enum|IntEnum|StrEnum|Flag|IntFlag|Generic|Protocol|ABC|ABCMeta|namedtuple|NamedTuple|
    TypedDict|TYPE_CHECKING|abstractmethod|_wall|_WallAttr|_record|_cold|_outside|_written_out|_member_names|register|mro|
    elements|version_info|with_traceback|add_note|Meta
)\b|dataclass|overload|contextmanager|metaclass=|\(type\)""", re.VERBOSE)
STATEMENTS_BARRED = (
    ast.Global, ast.AsyncFunctionDef, ast.AsyncFor, ast.AsyncWith, ast.Set, ast.SetComp, ast.GeneratorExp, ast.Div, ast.Match,
    ast.Try, ast.With,
)


def assigned_names(tree):
    """The names that are given a meaning somewhere, and the functions and classes; attributes are none."""
    for node in ast.walk(tree):
        if isinstance(node, ast.Name) and isinstance(node.ctx, ast.Store):
            yield node.id
        if isinstance(node, ast.arg):
            yield node.arg


def calls(node, *words):
    """Whether this is a call of one of these functions by its bare name."""
    return isinstance(node, ast.Call) and getattr(node.func, "id", "") in words


def is_new(node):
    """Whether this is plainly a list or dict that nothing else holds."""
    if isinstance(node, ast.Subscript):
        return isinstance(node.slice, ast.Slice)
    return calls(node, "list", "dict") or isinstance(node, (ast.List, ast.ListComp, ast.Dict, ast.DictComp, ast.BinOp))


def is_length(node):
    """Whether this is a literal number, or the length of something that is no range itself."""
    return isinstance(node, ast.Constant) or calls(node, "len") and not calls(node.args[0], "range")


class Language(unittest.TestCase):
    def sources(self):
        for path in sorted(FOLDER.rglob("*")):
            if path.is_file() and "__pycache__" not in path.parts:
                yield path, path.read_text(encoding="utf-8")

    def test_only_python_files(self):
        for path, _ in self.sources():
            self.assertRegex(path.name, r"\A([a-z][a-z0-9_]*|__init__|__main__)\.py\Z")
            self.assertFalse(path.name.startswith("test"))

    def test_sizes(self):
        for path, text in self.sources():
            lines = text.split("\n")
            self.assertLessEqual(len(lines), 400, path.name)
            self.assertLessEqual(max(len(line) for line in lines), 120, path.name)
            for node in ast.walk(ast.parse(text)):
                if isinstance(node, ast.FunctionDef):
                    self.assertLessEqual(node.end_lineno - node.lineno + 1, 40, f"{path.name} {node.name}")

    def test_characters(self):
        for path, text in self.sources():
            for sign in sorted(set(text)):
                self.assertTrue(sign == "\n" or " " <= sign <= "~", f"{path.name} {sign!r}")

    def test_imports(self):
        for path, text in self.sources():
            for node in ast.walk(ast.parse(text)):
                self.assertFalse(isinstance(node, ast.Import) and path.name != "__main__.py", path.name)
                if isinstance(node, ast.ImportFrom):
                    self.assertEqual(node.level, 0, path.name)
                    for found in node.names:
                        fine = found.name in LIBRARY.get(node.module, ()) or node.module.startswith("shortestbytes.")
                        self.assertTrue(fine, f"{path.name} {node.module} {found.name}")

    def test_no_percent_sign_in_strings(self):
        for path, text in self.sources():
            for node in ast.walk(ast.parse(text)):
                if isinstance(node, ast.Constant) and isinstance(node.value, str):
                    self.assertNotIn("%", node.value, path.name)

    def test_no_decorators_but_those_of_methods(self):
        for path, text in self.sources():
            for node in ast.parse(text).body:
                self.assertFalse(getattr(node, "decorator_list", []), path.name)

    def trees(self):
        for path, text in self.sources():
            yield path.name, ast.parse(text)

    def test_nothing_but_the_statements_and_values_in_use(self):
        # What the package does not need so far; the rules allow some of it in a few places.
        for name, tree in self.trees():
            for node in ast.walk(tree):
                self.assertNotIsInstance(node, STATEMENTS_BARRED, f"{name} {getattr(node, 'lineno', 0)}")

    def test_builtins(self):
        known = set(dir(builtins))
        for name, tree in self.trees():
            for node in ast.walk(tree):
                if isinstance(node, ast.Name) and isinstance(node.ctx, ast.Load) and node.id in known:
                    self.assertIn(node.id, BUILTINS, name)
            for word in assigned_names(tree):
                self.assertNotIn(word, known, name)

    def test_names(self):
        for name, tree in self.trees():
            bound = {
                alias.asname or alias.name
                for node in tree.body if isinstance(node, ast.ImportFrom) for alias in node.names
            }
            bound |= {node.name for node in tree.body if isinstance(node, ast.ClassDef)}
            for word in assigned_names(tree):
                self.assertNotIn(word, bound, name)
                self.assertRegex(word, r"\A_?[A-Za-z][A-Za-z0-9_]*\Z|\A_\Z")
            plain = [node.name for node in tree.body if isinstance(node, (ast.FunctionDef, ast.ClassDef))]
            self.assertEqual(len(plain), len(set(plain)))

    def test_words(self):
        for path, text in self.sources():
            self.assertIsNone(BARRED_WORDS.search(text), path.name)

    def test_methods_and_attributes(self):
        plain, made, stored = set(), set(), set()
        for name, tree in self.trees():
            for node in ast.walk(tree):
                if isinstance(node, ast.Attribute) and isinstance(node.ctx, ast.Store):
                    stored.add(node.attr)
                if not isinstance(node, ast.ClassDef):
                    continue
                for method in node.body:
                    if isinstance(method, ast.Assign):
                        stored |= {target.id for target in method.targets}
                    if not isinstance(method, ast.FunctionDef):
                        continue
                    if method.name.startswith("__"):
                        self.assertIn(method.name.strip("_"), DUNDERS, name)
                    elif method.decorator_list:
                        made.add(method.name)
                    else:
                        plain.add(method.name)
        self.assertFalse(made & (plain | stored))
        self.assertFalse(plain & stored)
        self.assertFalse(stored & BARRED_ATTRIBUTES)
        # Methods may be called like methods of lists, which then count as changes of the object.
        self.assertLessEqual((plain | made) & BARRED_ATTRIBUTES, {"insert", "remove"})

    def test_plain_values_at_module_level(self):
        for name, tree in self.trees():
            for statement in tree.body:
                if isinstance(statement, ast.Assign):
                    for node in ast.walk(statement.value):
                        self.assertNotIsInstance(node, (ast.Name, ast.Attribute, ast.Call, ast.Lambda), name)

    def test_iterated_on_the_spot(self):
        # A range may be kept in a variable; the others, and a choice between two of them, may not.
        for name, tree in self.trees():
            fine = set()
            for node in ast.walk(tree):
                if isinstance(node, (ast.For, ast.comprehension)):
                    fine.add(node.iter)
                if isinstance(node, ast.Call):
                    fine.update(node.args)
                if isinstance(node, ast.Assign) and isinstance(node.value, ast.Call):
                    fine |= {node.value} if getattr(node.value.func, "id", "") == "range" else set()
            for node in ast.walk(tree):
                if isinstance(node, ast.Call) and getattr(node.func, "id", "") in ("range", "zip", "enumerate", "reversed"):
                    self.assertIn(node, fine, f"{name} {node.lineno}")

    def test_what_extend_walks_is_new(self):
        # Not seen here: what `+=` walks; the package uses it for numbers only.
        for name, tree in self.trees():
            for node in ast.walk(tree):
                if isinstance(node, ast.AugAssign):
                    self.assertNotIsInstance(node.op, ast.BitOr, f"{name} {node.lineno}")
                if isinstance(node, ast.Call) and getattr(node.func, "attr", "") in ("extend", "update"):
                    self.assertEqual([is_new(walked) for walked in node.args], [True], f"{name} {node.lineno}")

    def test_what_len_gives_back(self):
        for name, tree in self.trees():
            for method in ast.walk(tree):
                if isinstance(method, ast.FunctionDef) and method.name == "__len__":
                    self.assertIsInstance(method.body[-1], ast.Return, name)
                    for node in ast.walk(method):
                        if isinstance(node, ast.Return):
                            self.assertTrue(is_length(node.value), f"{name} {node.lineno}")

    def test_is(self):
        for name, tree in self.trees():
            for node in ast.walk(tree):
                if isinstance(node, ast.Compare) and isinstance(node.ops[0], (ast.Is, ast.IsNot)):
                    self.assertIsInstance(node.comparators[0], ast.Constant, name)

    def test_no_sort_and_no_chr(self):
        for path, text in self.sources():
            self.assertNotRegex(text, r"\.sort\(|\bchr\(|\bbytes\(", path.name)

    def test_strings(self):
        for name, tree in self.trees():
            for node in ast.walk(tree):
                if isinstance(node, ast.Constant) and isinstance(node.value, str):
                    self.assertNotRegex(node.value, r"\A__.*__\Z|\._\Z|\.__\Z", name)

    def test_imported_from_the_file_that_defines_the_name(self):
        trees = {name[:-3]: tree for name, tree in self.trees()}
        defined = {}
        for name, tree in trees.items():
            defined[name] = {node.name for node in tree.body if isinstance(node, (ast.FunctionDef, ast.ClassDef))}
            defined[name] |= {node.targets[0].id for node in tree.body if isinstance(node, ast.Assign)}
        for tree in trees.values():
            for node in tree.body:
                if isinstance(node, ast.ImportFrom) and node.module.startswith("shortestbytes."):
                    self.assertLessEqual({found.name for found in node.names}, defined[node.module.split(".")[1]])

    def test_generators(self):
        # No other function has the name of a generator, and the package itself calls none.
        names, generators = [], set()
        for _, tree in self.trees():
            for node in ast.walk(tree):
                if isinstance(node, ast.FunctionDef):
                    names.append(node.name)
                    if any(isinstance(inner, (ast.Yield, ast.YieldFrom)) for inner in ast.walk(node)):
                        generators.add(node.name)
        self.assertEqual(generators, {"events", "children", "each"})
        self.assertEqual([names.count(name) for name in sorted(generators)], [1, 1, 1])

    def test_unused_imports(self):
        for name, tree in self.trees():
            used = {node.id for node in ast.walk(tree) if isinstance(node, ast.Name)}
            for node in tree.body:
                if isinstance(node, ast.ImportFrom):
                    self.assertLessEqual({found.name for found in node.names}, used, name)

    def test_no_two_files_import_each_other(self):
        needs = {}
        for name, tree in self.trees():
            found = [node.module for node in tree.body if isinstance(node, ast.ImportFrom)]
            needs[name[:-3]] = [module.split(".")[1] for module in found if module.startswith("shortestbytes.")]
        done = set()
        while len(done) < len(needs):
            ready = {name for name in needs if name not in done and set(needs[name]) <= done}
            self.assertTrue(ready, "a circle of imports")
            done |= ready


if __name__ == "__main__":
    unittest.main()
