"""Rule L5 of the language: what operators and properties call changes nothing but lists and dicts of its own."""

import ast
import unittest

from tests.test_language import files

OPERATORS = {"__contains__", "__eq__", "__len__", "__str__", "__iter__", "__getitem__"}
CHANGING = {"append", "extend", "insert", "pop", "remove", "clear", "update", "setdefault", "reverse", "sort", "add", "discard"}


def all_functions():
    """The dict from names to the functions and methods of the package that have them, and the names of its classes."""
    functions, classes = {}, set()
    for path in files():
        for node in ast.walk(ast.parse(path.read_text())):
            if isinstance(node, ast.FunctionDef):
                functions.setdefault(node.name, []).append((path, node))
            elif isinstance(node, ast.ClassDef):
                classes.add(node.name)
    return functions, classes


def is_property(node):
    return any(isinstance(one, ast.Name) and one.id == "property" for one in node.decorator_list)


def asked(node):
    """The names of what is called, or may be a property that is read."""
    names = set()
    for one in ast.walk(node):
        if isinstance(one, ast.Call) and isinstance(one.func, ast.Name):
            names.add(one.func.id)
        elif isinstance(one, ast.Attribute):
            names.add(one.attr)
        elif isinstance(one, ast.keyword) and one.arg == "key" and isinstance(one.value, ast.Name):
            names.add(one.value.id)
    return names


def own_names(node):
    """The variables that are lists or dicts which the function makes itself, and those that are something else as well."""
    made, others = set(), {arg.arg for arg in node.args.args}
    for one in ast.walk(node):
        if isinstance(one, ast.Assign):
            fresh = isinstance(one.value, (ast.List, ast.Dict, ast.ListComp)) or (
                isinstance(one.value, ast.Call) and getattr(one.value.func, "id", "") in ("list", "dict", "sorted"))
            names = {target.id for target in one.targets if isinstance(target, ast.Name)}
            (made if fresh else others).update(names)
    return made - others


def changed(node):
    """What the function changes, but for variables and what it makes itself: pairs of a line and a word."""
    made = own_names(node)
    for one in ast.walk(node):
        targets = one.targets if isinstance(one, (ast.Assign, ast.Delete)) else [one.target] if isinstance(one, ast.AugAssign) else []
        for target in targets:
            if isinstance(target, ast.Attribute) and node.name != "__init__":
                yield one.lineno, "attribute"
            if isinstance(target, ast.Subscript) and getattr(target.value, "id", None) not in made:
                yield one.lineno, "item"
        if isinstance(one, ast.AugAssign) and not isinstance(one.value, ast.Constant):
            yield one.lineno, "+="
        if isinstance(one, ast.Call) and isinstance(one.func, ast.Attribute) and one.func.attr in CHANGING:
            is_inner = isinstance(one.func.value, ast.Call) and one.func.value.func.attr == "setdefault"
            base = one.func.value.func.value if is_inner else one.func.value
            if getattr(base, "id", None) not in made or one.func.attr in ("sort", "add", "discard"):
                yield one.lineno, one.func.attr
        if isinstance(one, (ast.Nonlocal, ast.Yield, ast.YieldFrom)):
            yield one.lineno, "nonlocal or yield"


class Operators(unittest.TestCase):
    def test_they_and_properties_change_nothing(self):
        functions, classes = all_functions()
        waiting = [pair for found in functions.values() for pair in found if pair[1].name in OPERATORS or is_property(pair[1])]
        met = set()
        while waiting:
            path, node = waiting.pop()
            if (path, node.lineno) not in met:
                met.add((path, node.lineno))
                self.assertEqual(list(changed(node)), [], (path, node.name))
                for name in asked(node) - classes:
                    waiting += functions.get(name, [])
        self.assertGreater(len(met), 80)


if __name__ == "__main__":
    unittest.main()
