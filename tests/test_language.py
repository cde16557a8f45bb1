"""The rules of the language that a look at the files alone can tell."""

import ast
import pathlib
import unittest

import shortestbytes

FOLDER = pathlib.Path(shortestbytes.__file__).parent
LIBRARY = {
    "heapq": {"heappush", "heappop", "heapify", "heapreplace", "heappushpop"},
    "math": {"gcd", "lcm", "isqrt", "comb", "perm", "factorial"},
    "itertools": {
        "product", "combinations", "permutations", "chain", "accumulate", "pairwise", "islice", "zip_longest",
    },
    "collections": {"defaultdict"},
}


class Language(unittest.TestCase):
    def sources(self):
        for path in sorted(FOLDER.rglob("*")):
            if path.is_file() and "__pycache__" not in path.parts:
                yield path, path.read_text(encoding="utf-8")

    def test_only_python_files(self):
        for path, _ in self.sources():
            self.assertRegex(path.name, r"\A([a-z][a-z0-9_]*|__init__|__main__)\.py\Z")
            self.assertFalse(path.name.startswith("test"))

    def test_sizes(self):
        for path, text in self.sources():
            lines = text.split("\n")
            self.assertLessEqual(len(lines), 400, path.name)
            self.assertLessEqual(max(len(line) for line in lines), 120, path.name)
            for node in ast.walk(ast.parse(text)):
                if isinstance(node, ast.FunctionDef):
                    self.assertLessEqual(node.end_lineno - node.lineno + 1, 40, f"{path.name} {node.name}")

    def test_characters(self):
        for path, text in self.sources():
            for sign in sorted(set(text)):
                self.assertTrue(sign == "\n" or " " <= sign <= "~", f"{path.name} {sign!r}")

    def test_imports(self):
        for path, text in self.sources():
            for node in ast.walk(ast.parse(text)):
                self.assertFalse(isinstance(node, ast.Import) and path.name != "__main__.py", path.name)
                if isinstance(node, ast.ImportFrom):
                    self.assertEqual(node.level, 0, path.name)
                    for found in node.names:
                        fine = found.name in LIBRARY.get(node.module, ()) or node.module.startswith("shortestbytes.")
                        self.assertTrue(fine, f"{path.name} {node.module} {found.name}")

    def test_no_percent_sign_in_strings(self):
        for path, text in self.sources():
            for node in ast.walk(ast.parse(text)):
                if isinstance(node, ast.Constant) and isinstance(node.value, str):
                    self.assertNotIn("%", node.value, path.name)

    def test_no_decorators_but_those_of_methods(self):
        for path, text in self.sources():
            for node in ast.parse(text).body:
                self.assertFalse(getattr(node, "decorator_list", []), path.name)


if __name__ == "__main__":
    unittest.main()
