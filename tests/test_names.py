"""The names in the files of the package: none means two things where that is not allowed."""

import ast
import builtins
import unittest

from tests.test_form import attributes_of, sources

# Methods of strings, lists, dicts and the like that the package may call.
OF_VALUES = {name for kind in (str, list, dict, int) for name in dir(kind)}


def functions_in(tree):
    return [node for node in ast.walk(tree) if isinstance(node, ast.FunctionDef)]


def methods_in(tree):
    return [part for node in ast.walk(tree) if isinstance(node, ast.ClassDef)
            for part in node.body if isinstance(part, ast.FunctionDef)]


def yields(function):
    return any(isinstance(node, (ast.Yield, ast.YieldFrom)) for node in ast.walk(function))


def bound_in(function):
    """The parameters and all names that the function assigns."""
    arguments = function.args
    found = [part.arg for part in arguments.args + arguments.kwonlyargs + arguments.posonlyargs]
    found += [part.arg for part in (arguments.vararg, arguments.kwarg) if part]
    return found + [node.id for node in ast.walk(function)
                    if isinstance(node, ast.Name) and isinstance(node.ctx, ast.Store)]


class TestNames(unittest.TestCase):
    def setUp(self):
        self.trees = {name: ast.parse(text) for name, text in sources().items()}
        self.methods = [node for tree in self.trees.values() for node in methods_in(tree)]

    def test_no_name_is_a_method_and_an_attribute(self):
        names = {node.name for node in self.methods}
        self.assertEqual(names & attributes_of(self.trees.values()), set())

    def test_names_of_generators_mean_nothing_else(self):
        functions = [node for tree in self.trees.values() for node in functions_in(tree)]
        for generator in [node for node in functions if yields(node)]:
            named = [node for node in functions if node.name == generator.name]
            self.assertEqual(len(named), 1, generator.name)
            self.assertNotIn(generator.name, attributes_of(self.trees.values()))
            self.assertNotIn(generator.name, OF_VALUES)

    def test_variables_hide_nothing(self):
        for name, tree in self.trees.items():
            taken = set(dir(builtins))
            for node in tree.body:
                if isinstance(node, ast.ImportFrom):
                    taken.update(part.name for part in node.names)
                if isinstance(node, ast.ClassDef):
                    taken.add(node.name)
            for function in functions_in(tree):
                self.assertEqual(taken & set(bound_in(function)), set(), f"{name}.{function.name}")

    def test_attributes_that_are_read_exist(self):
        # `setter` stands in the decorator of a property that can be assigned.
        known = attributes_of(self.trees.values()) | OF_VALUES | {"setter"}
        known.update(node.name for node in self.methods)
        for name, tree in self.trees.items():
            for node in ast.walk(tree):
                if isinstance(node, ast.ClassDef):
                    known.update(target.id for part in node.body if isinstance(part, ast.Assign)
                                 for target in part.targets)
        for name, tree in self.trees.items():
            for node in ast.walk(tree):
                if isinstance(node, ast.Attribute):
                    self.assertIn(node.attr, known, name)


class TestStatements(unittest.TestCase):
    def test_what_the_language_leaves_out(self):
        for name, text in sources().items():
            for node in ast.walk(ast.parse(text)):
                self.assertNotIsInstance(node, (ast.GeneratorExp, ast.Lambda, ast.Global, ast.AugAssign,
                                                ast.NamedExpr, ast.AsyncFunctionDef), name)
                if isinstance(node, ast.Attribute):
                    self.assertNotIn(node.attr, ["sort", "keys", "format"], name)
                if isinstance(node, ast.Constant) and isinstance(node.value, str):
                    self.assertNotIn("%", node.value, name)
                if isinstance(node, ast.Constant):
                    self.assertNotIsInstance(node.value, float, name)

    def test_what_is_reversed(self):
        for name, text in sources().items():
            for node in ast.walk(ast.parse(text)):
                if isinstance(node, ast.Call) and ast.unparse(node.func) == "reversed":
                    self.assertIsInstance(node.args[0], ast.Call, name)
                    self.assertIn(node.args[0].func.id, ["list", "tuple", "sorted", "range"], name)


if __name__ == "__main__":
    unittest.main()
