"""Those rules of the language that are plainly seen in a file: of L1, L2, L6, L7, L8, L10, L14 to L17 and L27."""

import ast
import builtins
import pathlib
import unittest

PACKAGE = pathlib.Path(__file__).resolve().parent.parent / "rimtrails"
LIBRARY = {
    "heapq": {"heappush", "heappop", "heapify", "heapreplace", "heappushpop"},
    "math": {"gcd", "lcm", "isqrt", "comb", "perm", "factorial"},
}
BUILTINS = set("""
    len range enumerate zip min max sum abs sorted reversed int str bool list tuple dict set isinstance ord repr any all
    divmod iter next map property classmethod staticmethod NotImplemented Exception ValueError TypeError KeyError IndexError
    LookupError ZeroDivisionError ArithmeticError OverflowError RuntimeError NotImplementedError
    """.split())
WORDS = ("type", "typing", "enum", "namedtuple", "dataclass", "overload", "contextmanager", "abstractmethod")
NEVER = (ast.Global, ast.AsyncFunctionDef, ast.AsyncFor, ast.AsyncWith, ast.Await, ast.Div)


def files():
    return sorted(PACKAGE.rglob("*.py"))


def module_of(path):
    names = list(path.relative_to(PACKAGE.parent).with_suffix("").parts)
    return ".".join(names[:-1] if names[-1] == "__init__" else names)


def nodes(kind):
    for path in files():
        for node in ast.walk(ast.parse(path.read_text())):
            if isinstance(node, kind):
                yield path, node


def defined_in(path):
    """The names that a file defines itself at module level."""
    names = set()
    for node in ast.parse(path.read_text()).body:
        if isinstance(node, (ast.FunctionDef, ast.ClassDef)):
            names.add(node.name)
        elif isinstance(node, ast.Assign):
            names.update(target.id for target in node.targets)
    return names


def bound_names(node):
    """The names that a piece of a file gives a meaning, alone."""
    if isinstance(node, (ast.FunctionDef, ast.ClassDef)):
        return [node.name]
    if isinstance(node, ast.arg):
        return [node.arg]
    return [node.id] if isinstance(node.ctx, ast.Store) else []


class Files(unittest.TestCase):
    def test_each_folder_has_an_init_and_nothing_but_files_of_the_language(self):
        for path in PACKAGE.rglob("*"):
            if path.is_dir() and path.name != "__pycache__":
                self.assertTrue((path / "__init__.py").is_file(), path)
            elif path.is_file() and path.parent.name != "__pycache__":
                self.assertEqual(path.suffix, ".py")

    def test_sizes_and_characters(self):
        for path in files():
            rows = path.read_text().split("\n")
            self.assertLessEqual(len(rows), 399, path)
            for row in rows:
                self.assertLessEqual(len(row), 120, (path, row))
                self.assertTrue(all(" " <= sign <= "~" for sign in row), (path, row))

    def test_functions_have_at_most_forty_rows(self):
        for path, node in nodes(ast.FunctionDef):
            self.assertLessEqual(node.end_lineno - node.lineno + 1, 40, (path, node.name))


class Imports(unittest.TestCase):
    def test_they_name_the_file_that_defines_the_name(self):
        own = {module_of(path): defined_in(path) for path in files()}
        for path, node in nodes((ast.Import, ast.ImportFrom)):
            self.assertIsInstance(node, ast.ImportFrom, path)
            self.assertEqual(node.level, 0)
            for told in node.names:
                self.assertIsNone(told.asname)
                self.assertIn(told.name, {**own, **LIBRARY}.get(node.module, ()), (path, node.module))

    def test_no_two_files_import_from_each_other(self):
        wanted = {module_of(path): [] for path in files()}
        for path, node in nodes(ast.ImportFrom):
            if node.module in wanted:
                wanted[module_of(path)].append(node.module)
        while wanted:
            free = [name for name, others in wanted.items() if not any(other in wanted for other in others)]
            self.assertTrue(free, wanted)
            for name in free:
                del wanted[name]


class Rows(unittest.TestCase):
    def test_only_allowed_builtins_are_used_and_none_gets_another_meaning(self):
        for path, node in nodes((ast.Name, ast.arg, ast.FunctionDef, ast.ClassDef)):
            for name in bound_names(node):
                self.assertFalse(hasattr(builtins, name) and not name.startswith("__"), (path, name))
            if isinstance(node, ast.Name) and hasattr(builtins, node.id):
                self.assertIn(node.id, BUILTINS, path)

    def test_no_name_is_an_import_or_a_class_of_its_file(self):
        for path in files():
            tree = ast.parse(path.read_text())
            taken = {told.name for node in tree.body if isinstance(node, ast.ImportFrom) for told in node.names}
            taken |= {node.name for node in tree.body if isinstance(node, ast.ClassDef)}
            for node in ast.walk(tree):
                if isinstance(node, (ast.Name, ast.arg)):
                    self.assertFalse(taken & set(bound_names(node)), (path, node.lineno))

    def test_no_float_no_global_and_no_other_barred_piece(self):
        for path, node in nodes((*NEVER, ast.Constant)):
            if isinstance(node, ast.Constant):
                self.assertNotIsInstance(node.value, (float, complex), path)
            else:
                self.fail((path, node))

    def test_all_and_its_kin_take_no_generator_expression(self):
        for path, node in nodes(ast.Call):
            if isinstance(node.func, ast.Name) and node.func.id in ("any", "all", "min", "max", "sum", "sorted"):
                self.assertNotIsInstance(node.args[0], ast.GeneratorExp, (path, node.lineno))

    def test_strings_and_words(self):
        for path, node in nodes(ast.Constant):
            if isinstance(node.value, str):
                self.assertNotIn("%", node.value, path)
        for path, node in nodes((ast.Name, ast.Attribute, ast.arg)):
            name = getattr(node, "id", getattr(node, "attr", getattr(node, "arg", "")))
            self.assertNotIn(name, WORDS, path)


if __name__ == "__main__":
    unittest.main()
