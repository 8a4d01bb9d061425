"""The interface: names, arguments and attributes, each defined in its file; and the form of the package's files."""

import ast
import doctest
import inspect
import unittest
from pathlib import Path

from openchange import errors, judging, kinds, plans

PACKAGE = Path(errors.__file__).parent

ERRORS = {"ChangeError": None, "BadPlan": ["part"], "BadLag": ["lag"], "BadMove": ["number"],
          "BadVersion": ["version"], "BadBack": ["version"], "BadLean": ["part"], "BadSpare": ["told"],
          "TooLarge": ["number"]}


def parameters(called):
    return list(inspect.signature(called).parameters)


class InterfaceTest(unittest.TestCase):
    def test_functions(self):
        for module, name, expected in (
                (kinds, "kind_of", ["word"]), (plans, "held", ["plan", "lag"]), (judging, "judge", ["plan", "lag"]),
                (judging, "moved", ["plan", "lag", "world", "moves"])):
            self.assertEqual(parameters(getattr(module, name)), expected)
            self.assertEqual(getattr(module, name).__module__, module.__name__)

    def test_classes(self):
        for module, name, expected in (
                (plans, "Plan", ["kind", "sets", "job", "at"]), (judging, "Safe", ["table"]),
                (judging, "Wrong", ["world", "moves"])):
            self.assertEqual(parameters(getattr(module, name)), expected)
            self.assertEqual(getattr(module, name).__module__, module.__name__)
        signature = inspect.signature(plans.Plan)
        self.assertEqual([signature.parameters[name].default for name in ("job", "at")], ["", 0])

    def test_methods_stand_in_their_classes(self):
        for owner, methods in (
                (plans.Plan, {"last": [], "__eq__": ["other"]}),
                (judging.Safe, {"shows": ["plan", "lag"], "__eq__": ["other"], "__bool__": []}),
                (judging.Wrong, {"shows": ["plan", "lag"], "__eq__": ["other"], "__bool__": []}),
                (type(kinds.kind_of("index")), {
                    "worlds": [], "deeds": ["world", "duties"], "worked": ["job", "world", "part"],
                    "firsts": ["duties"]})):
            for name, expected in methods.items():
                self.assertEqual(parameters(vars(owner)[name])[1:], expected, (owner, name))

    def test_errors(self):
        for name, expected in ERRORS.items():
            self.assertEqual(getattr(errors, name).__module__, errors.__name__)
            if expected:
                self.assertEqual(parameters(getattr(errors, name)), expected)


class ReadmeTest(unittest.TestCase):
    def test_examples(self):
        text = (PACKAGE.parent / "README.md").read_text().replace("```", "")
        example = doctest.DocTestParser().get_doctest(text, {}, "README.md", "README.md", 0)
        self.assertGreater(len(example.examples), 0)
        self.assertEqual(doctest.DocTestRunner().run(example).failed, 0)


class FormTest(unittest.TestCase):
    def trees(self):
        return [(path, ast.parse(path.read_text())) for path in sorted(PACKAGE.glob("*.py"))]

    def test_the_folder_contains_modules_alone(self):
        names = [path.name for path in PACKAGE.iterdir() if path.name != "__pycache__"]
        self.assertIn("__init__.py", names)
        for name in names:
            self.assertRegex(name, r"\A[a-z_0-9]+\.py\Z")

    def test_sizes_and_characters(self):
        for path, tree in self.trees():
            lines = path.read_text().split("\n")
            self.assertLess(len(lines), 400, path)
            self.assertLessEqual(max(map(len, lines)), 120, path)
            self.assertTrue(all(" " <= sign <= "~" for line in lines for sign in line), path)
            for node in ast.walk(tree):
                if isinstance(node, ast.FunctionDef):
                    self.assertLessEqual(node.end_lineno - node.lineno + 1, 40, (path, node.name))

    def test_imports_are_of_the_package(self):
        for path, tree in self.trees():
            for node in ast.walk(tree):
                self.assertNotIsInstance(node, ast.Import, path)
                if isinstance(node, ast.ImportFrom):
                    self.assertTrue(node.module.startswith("openchange."), path)
                    source = ast.parse((PACKAGE / (node.module.split(".")[1] + ".py")).read_text())
                    defined = [made.name for made in source.body if isinstance(made, (ast.FunctionDef, ast.ClassDef))]
                    defined += [made.targets[0].id for made in source.body if isinstance(made, ast.Assign)]
                    for alias in node.names:
                        self.assertIn(alias.name, defined, path)


if __name__ == "__main__":
    unittest.main()
