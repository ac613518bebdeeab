"""The plainest of the rules of LANGUAGE.md, over the files of the package."""

import ast
import pathlib
import re
import unittest

PACKAGE = pathlib.Path(__file__).resolve().parent.parent / "meanrings"
BUILTINS = set(
    "len range enumerate zip min max sum abs sorted reversed int str bool bytes list tuple dict set frozenset "
    "isinstance ord repr any all divmod super Exception ValueError TypeError KeyError IndexError LookupError "
    "ZeroDivisionError ArithmeticError OverflowError RuntimeError NotImplementedError".split()
)
BARRED_WORDS = (
    "type typing typing_extensions enum Enum IntEnum StrEnum Flag IntFlag Generic Protocol ABC ABCMeta namedtuple "
    "NamedTuple TypedDict TYPE_CHECKING abstractmethod"
).split()
BARRED_NODES = (
    ast.Global, ast.AsyncFunctionDef, ast.Await, ast.AsyncFor, ast.AsyncWith, ast.Div, ast.MatMult, ast.Import,
)


def files():
    return sorted(PACKAGE.glob("*.py"))


class Language(unittest.TestCase):
    def test_nothing_else_stands_in_the_folder(self):
        others = [path.name for path in PACKAGE.iterdir() if path.name != "__pycache__" and path.suffix != ".py"]
        self.assertEqual(others, [])
        self.assertTrue((PACKAGE / "__init__.py").exists())

    def test_sizes_and_signs(self):
        for path in files():
            text = path.read_bytes().decode("ascii")
            self.assertTrue(all(" " <= sign <= "~" or sign == "\n" for sign in text), path.name)
            self.assertLessEqual(len(text.splitlines()), 400, path.name)
            self.assertLessEqual(max(map(len, text.splitlines())), 120, path.name)
            self.assertNotIn("%", "".join(re.findall(r'"[^"\n]*"', text)), path.name)
            for word in BARRED_WORDS:
                self.assertIsNone(re.search(rf"\b{word}\b", text), (path.name, word))

    def test_functions_are_short(self):
        for path in files():
            for node in ast.walk(ast.parse(path.read_text())):
                if isinstance(node, ast.FunctionDef):
                    self.assertLessEqual(node.end_lineno - node.lineno + 1, 40, (path.name, node.name))

    def test_nodes_and_names(self):
        for path in files():
            tree = ast.parse(path.read_text())
            own = {node.name for node in ast.walk(tree) if isinstance(node, (ast.FunctionDef, ast.ClassDef))}
            own |= {alias.name for node in ast.walk(tree) if isinstance(node, ast.ImportFrom) for alias in node.names}
            names = [node for node in ast.walk(tree) if isinstance(node, ast.Name)]
            stored = {node.id for node in names if isinstance(node.ctx, ast.Store)}
            stored |= {node.arg for node in ast.walk(tree) if isinstance(node, ast.arg)}
            stored |= {node.name for node in ast.walk(tree) if isinstance(node, ast.MatchAs) and node.name}
            self.assertEqual({name for name in stored if name in BUILTINS or name.startswith("_")}, set(), path.name)
            self.assertEqual(stored & own, set(), path.name)
            for node in ast.walk(tree):
                self.assertNotIsInstance(node, BARRED_NODES, (path.name, getattr(node, "lineno", 0)))
                if isinstance(node, ast.Name) and isinstance(node.ctx, ast.Load):
                    self.assertIn(node.id, BUILTINS | own | stored, (path.name, node.lineno))
                if isinstance(node, ast.ImportFrom):
                    self.assertTrue(node.level == 0 and node.module.startswith("meanrings."), (path.name, node.lineno))
                if isinstance(node, ast.Constant):
                    self.assertNotIsInstance(node.value, float, (path.name, node.lineno))

    def test_imports_name_the_file_that_defines_the_name(self):
        trees = {path.stem: ast.parse(path.read_text()) for path in files()}
        imported = {}
        for stem, tree in trees.items():
            imports = [node for node in tree.body if isinstance(node, ast.ImportFrom)]
            imported[stem] = {node.module.removeprefix("meanrings.") for node in imports}
            for node in imports:
                defined = {part.name for part in trees[node.module.removeprefix("meanrings.")].body
                           if isinstance(part, (ast.FunctionDef, ast.ClassDef))}
                defined |= {part.targets[0].id for part in trees[node.module.removeprefix("meanrings.")].body
                            if isinstance(part, ast.Assign)}
                self.assertLessEqual({alias.name for alias in node.names}, defined, stem)
        # Files are taken off that import only from those already off: so none import from each other.
        while imported:
            free = [stem for stem in imported if not imported[stem] & set(imported)]
            self.assertTrue(free, imported)
            for stem in free:
                del imported[stem]

    def test_imports_are_used(self):
        for path in files():
            tree = ast.parse(path.read_text())
            names = {node.id for node in ast.walk(tree) if isinstance(node, ast.Name)}
            for node in ast.walk(tree):
                if isinstance(node, ast.ImportFrom):
                    self.assertLessEqual({alias.name for alias in node.names}, names, path.name)


if __name__ == "__main__":
    unittest.main()
