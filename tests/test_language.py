"""The rules for the package's own files, as far as a short test can see them."""

import ast
import builtins
import pathlib
import re
import unittest

FOLDER = pathlib.Path(__file__).resolve().parent.parent / "sameontrees"
FILES = sorted(FOLDER.glob("*.py"))

BUILTINS = set("""
    len range enumerate zip min max sum abs sorted reversed int str bool list tuple dict set
    isinstance ord repr any all divmod ValueError
""".split())

METHODS = set("""
    append clear copy count endswith extend find get index insert isalnum isalpha isdigit islower
    isspace isupper items join keys ljust lower lstrip partition pop remove replace reverse rfind
    rjust rpartition rsplit rstrip setdefault split splitlines startswith strip update upper values
    zfill bit_length isascii removeprefix removesuffix
""".split())

BARRED = re.compile(r"\b(type|typing|enum|Enum|register|mro|elements|open|input|law|eval|exec|os|"
                    r"super|vars|globals|locals|exit|id|dir)\b")


def trees():
    """The files with their syntax trees."""
    return [(path, ast.parse(path.read_text())) for path in FILES]


def nodes(tree, sort):
    """All nodes of the sort in the tree."""
    return [node for node in ast.walk(tree) if isinstance(node, sort)]


class Language(unittest.TestCase):

    def test_the_folder_holds_files_with_plain_names_alone(self):
        self.assertIn(FOLDER / "__init__.py", FILES)
        for path in FOLDER.iterdir():
            if path.name != "__pycache__":
                self.assertTrue(path.is_file())
                self.assertRegex(path.name, r"^[a-z_][a-z0-9_]*\.py$")

    def test_signs_and_sizes(self):
        for path in FILES:
            text = path.read_text()
            self.assertRegex(text, r"\A[\n -~]*\Z", path.name)
            self.assertLessEqual(len(text.splitlines()), 399, path.name)
            self.assertLessEqual(max(len(line) for line in text.splitlines()), 120, path.name)

    def test_functions_are_small_and_bare(self):
        for path, tree in trees():
            for function in nodes(tree, ast.FunctionDef):
                self.assertLessEqual(function.end_lineno - function.lineno + 1, 40, function.name)
                self.assertEqual(function.decorator_list, [])
                self.assertIsNotNone(ast.get_docstring(function) or function.name == "__init__")

    def test_imports_name_the_very_file(self):
        defined = {f"sameontrees.{path.stem}": {
            getattr(node, "name", None) or node.targets[0].id for node in tree.body
            if isinstance(node, (ast.FunctionDef, ast.ClassDef, ast.Assign))}
            for path, tree in trees()}
        defined["math"] = {"gcd", "lcm"}
        defined["heapq"] = {"heappop", "heappush"}
        for path, tree in trees():
            self.assertEqual(nodes(tree, ast.Import), [])
            for node in nodes(tree, ast.ImportFrom):
                for alias in node.names:
                    self.assertIn(alias.name, defined[node.module])
                    self.assertIsNone(alias.asname)

    def test_what_is_imported_is_used(self):
        for path, tree in trees():
            used = {node.id for node in nodes(tree, ast.Name)}
            for node in nodes(tree, ast.ImportFrom):
                self.assertEqual({alias.name for alias in node.names} - used, set(), path.name)

    def test_no_files_import_from_each_other(self):
        leads = {path.stem: [node.module.rpartition(".")[2] for node in nodes(tree, ast.ImportFrom)]
                 for path, tree in trees()}
        while leads:
            ends = [stem for stem, others in leads.items() if not set(others) & set(leads)]
            self.assertTrue(ends, leads)
            leads = {stem: others for stem, others in leads.items() if stem not in ends}

    def test_builtins_methods_and_words(self):
        own = {node.name for _, tree in trees() for node in nodes(tree, ast.FunctionDef)}
        for path, tree in trees():
            for name in nodes(tree, ast.Name):
                if hasattr(builtins, name.id):
                    self.assertIn(name.id, BUILTINS, path.name)
                    self.assertIsInstance(name.ctx, ast.Load, name.id)
            for call in nodes(tree, ast.Call):
                if isinstance(call.func, ast.Attribute) and call.func.attr != "__init__":
                    self.assertIn(call.func.attr, METHODS | own, path.name)
            for node in nodes(tree, (ast.Name, ast.arg, ast.Attribute, ast.Constant)):
                words = [getattr(node, part, "") for part in ("id", "arg", "attr", "value")]
                for word in words:
                    if isinstance(word, str) and "\n" not in word and " " not in word:
                        self.assertIsNone(BARRED.search(word), word)

    def test_local_names_are_not_those_of_imports_and_classes(self):
        for path, tree in trees():
            barred = {alias.name for node in nodes(tree, ast.ImportFrom) for alias in node.names}
            barred |= {node.name for node in nodes(tree, ast.ClassDef)}
            barred |= {node.name for node in tree.body if isinstance(node, ast.FunctionDef)}
            stored = {node.id for node in nodes(tree, ast.Name) if isinstance(node.ctx, ast.Store)}
            stored |= {node.arg for node in nodes(tree, ast.arg)}
            stored |= {node.name for node in nodes(tree, ast.ExceptHandler)}
            self.assertEqual(stored & barred, set(), path.name)

    def test_no_name_is_a_method_and_an_attribute(self):
        methods = {node.name for _, tree in trees() for cls in nodes(tree, ast.ClassDef)
                   for node in nodes(cls, ast.FunctionDef)}
        attributes = {node.attr for _, tree in trees() for node in nodes(tree, ast.Attribute)
                      if isinstance(node.ctx, ast.Store)}
        self.assertEqual(methods & attributes, set())

    def test_generator_expressions_stand_in_calls_of_a_few(self):
        for path, tree in trees():
            held = [arg for call in nodes(tree, ast.Call) for arg in call.args
                    if isinstance(arg, ast.GeneratorExp) and isinstance(call.func, ast.Name)
                    and call.func.id in ("any", "all", "sum", "min", "max", "sorted", "list", "tuple")]
            self.assertEqual(len(held), len(nodes(tree, ast.GeneratorExp)), path.name)

    def test_values_and_statements(self):
        for path, tree in trees():
            self.assertEqual(nodes(tree, (ast.Div, ast.Global, ast.AsyncFunctionDef)), [], path.name)
            for node in nodes(tree, ast.Constant):
                self.assertNotIsInstance(node.value, (float, complex, bytes))
            for node in tree.body:
                self.assertIsInstance(node, (ast.Expr, ast.ImportFrom, ast.FunctionDef,
                                             ast.ClassDef, ast.Assign))


if __name__ == "__main__":
    unittest.main()
