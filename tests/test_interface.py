"""The interface: names, arguments and attributes, each defined in its file; and the form of the package's files."""

import ast
import doctest
import inspect
import unittest
from pathlib import Path

from openchange import (changeerrors, database, errors, judging, kinds, leaning, leases, parted, plans, playing,
                        recipes, returning, schemas, schematexts, shortest, sparing, views, weaving)

PACKAGE = Path(errors.__file__).parent

ERRORS = {
    errors: {"ChangeError": None, "BadPlan": ["part"], "BadLag": ["lag"], "BadMove": ["number"],
             "BadVersion": ["version"], "BadBack": ["version"], "BadLean": ["part"], "BadSpare": ["told"],
             "TooLarge": ["number"]},
    changeerrors: {"BadRows": ["focus"], "NotNow": ["event"], "BadTerms": ["part"], "BadText": ["line", "column"],
                   "BadChange": ["element"]}}

FUNCTIONS = (
    (kinds, "kind_of", ["word"]), (plans, "held", ["plan", "lag"]), (judging, "judge", ["plan", "lag"]),
    (judging, "moved", ["plan", "lag", "world", "moves"]),
    (shortest, "shortest", ["kind", "first", "last", "lag", "most"]),
    (returning, "worlds_at", ["plan", "lag", "version"]), (returning, "judge_back", ["plan", "backs", "lag"]),
    (returning, "shortest_back", ["plan", "version", "lag", "most"]), (sparing, "spares", ["plan", "lag"]),
    (sparing, "leanest", ["plan", "lag"]), (sparing, "is_leanest", ["plan", "lag"]),
    (views, "view", ["plan", "lag", "rows", "element", "events", "focus"]),
    (playing, "played", ["plan", "lag", "world", "moves"]), (leases, "judge_terms", ["terms", "lag"]),
    (leases, "least_wait", ["length", "delay", "drift", "lag"]), (leases, "least_lag", ["terms"]),
    (recipes, "recipe", ["kind", "word"]), (schemas, "changes", ["old", "new"]),
    (schemas, "leans_on", ["change", "other"]), (schematexts, "read_schema", ["text"]),
    (schematexts, "write_schema", ["schema"]), (weaving, "woven", ["old", "new"]), (weaving, "write_woven", ["told"]),
    (parted, "judge_orders", ["sets", "job", "at", "lag"]),
    (parted, "shortest_parted", ["first", "last", "lag", "most", "orders"]),
    (leaning, "judge_lean", ["leaning", "lag"]), (leaning, "least_offset", ["column", "index", "lag"]))

PAPER = {"__eq__": ["other"], "__bool__": []}
ASKED = ["kind", "first", "last", "lag", "most"]

CLASSES = (
    (plans, "Plan", ["kind", "sets", "job", "at"], {"last": [], "__eq__": ["other"]}),
    (judging, "Safe", ["table"], {"shows": ["plan", "lag"], **PAPER}),
    (judging, "Wrong", ["world", "moves"], {"shows": ["plan", "lag"], **PAPER}),
    (shortest, "Shortest", ["plan", "paper", "against"], {"shows": ASKED, **PAPER}),
    (shortest, "NoPlan", ["against"], {"shows": ASKED, **PAPER}),
    (returning, "CanReturn", ["tables"], {"shows": ["plan", "backs", "lag"], **PAPER}),
    (returning, "CannotReturn", ["version", "world", "there", "back"], {"shows": ["plan", "backs", "lag"], **PAPER}),
    (sparing, "Spares", ["spare", "needed"], {"shows": ["plan", "lag"], "__eq__": ["other"]}),
    (database, "Database", ["plan", "lag", "rows", "element"], {
        "low": [], "can": ["event"], "happen": ["event"], "answers": ["events"], "focuses": [], "world": ["focus"],
        "is_clean": []}),
    (leases, "Terms", ["length", "delay", "wait", "drift"], {"__eq__": ["other"]}),
    (leases, "Enough", ["margin"], {"shows": ["terms", "lag"], **PAPER}),
    (leases, "TooShort", ["tells", "made", "came", "used"], {"shows": ["terms", "lag"], **PAPER}),
    (schemas, "Schema", ["tables"], {"marked": [], "__eq__": ["other"]}),
    (weaving, "Woven", ["length", "starts", "chain"], {
        "shows": ["old", "new"], "plan": ["change"], "duties_at": ["version"], "__eq__": ["other"]}),
    (parted, "PartedPlan", ["sets", "job", "at", "orders"], {"firsts": [], "last": [], "__eq__": ["other"]}),
    (parted, "OrdersTold", ["papers"], {"safe": [], "shows": ["sets", "job", "at", "lag"], "__eq__": ["other"]}),
    (parted, "ShortestParted", ["plan", "paper", "against"], {
        "shows": ["first", "last", "lag", "most", "orders"], **PAPER}),
    (leaning, "Leaning", ["column", "index", "offset"], {"last": [], "sets_at": ["version"]}),
    (leaning, "LeanSafe", ["table"], {"shows": ["leaning", "lag"], **PAPER}),
    (leaning, "LeanWrong", ["world", "moves"], {"shows": ["leaning", "lag"], **PAPER}),
    (leaning, "LeastOffset", ["offset", "paper", "against"], {"shows": ["column", "index", "lag"], **PAPER}))

# What the files may import beside the package's own.
LIBRARY = {"math": ["gcd"]}


def parameters(called):
    return list(inspect.signature(called).parameters)


class InterfaceTest(unittest.TestCase):
    def test_functions(self):
        for module, name, expected in FUNCTIONS:
            self.assertEqual(parameters(getattr(module, name)), expected)
            self.assertEqual(getattr(module, name).__module__, module.__name__)

    def test_classes(self):
        for module, name, expected, _ in CLASSES:
            self.assertEqual(parameters(getattr(module, name)), expected)
            self.assertEqual(getattr(module, name).__module__, module.__name__)
        signature = inspect.signature(plans.Plan)
        self.assertEqual([signature.parameters[name].default for name in ("job", "at")], ["", 0])
        self.assertIsNone(inspect.signature(database.Database).parameters["element"].default)

    def test_methods_stand_in_their_classes(self):
        told = [(getattr(module, name), methods) for module, name, _, methods in CLASSES]
        told.append((type(kinds.kind_of("index")), {
            "worlds": [], "deeds": ["world", "duties"], "worked": ["job", "world", "part"], "firsts": ["duties"]}))
        for owner, methods in told:
            for name, expected in methods.items():
                self.assertEqual(parameters(vars(owner)[name])[1:], expected, (owner, name))

    def test_errors(self):
        for module, told in ERRORS.items():
            for name, expected in told.items():
                self.assertEqual(getattr(module, name).__module__, module.__name__)
                if expected:
                    self.assertEqual(parameters(getattr(module, name)), expected)


class ReadmeTest(unittest.TestCase):
    def test_examples(self):
        text = (PACKAGE.parent / "README.md").read_text().replace("```", "")
        example = doctest.DocTestParser().get_doctest(text, {}, "README.md", "README.md", 0)
        self.assertGreater(len(example.examples), 0)
        self.assertEqual(doctest.DocTestRunner().run(example).failed, 0)


class FormTest(unittest.TestCase):
    def trees(self):
        return [(path, ast.parse(path.read_text())) for path in sorted(PACKAGE.glob("*.py"))]

    def test_the_folder_contains_modules_alone(self):
        names = [path.name for path in PACKAGE.iterdir() if path.name != "__pycache__"]
        self.assertIn("__init__.py", names)
        for name in names:
            self.assertRegex(name, r"\A[a-z_0-9]+\.py\Z")

    def test_sizes_and_characters(self):
        for path, tree in self.trees():
            lines = path.read_text().split("\n")
            self.assertLess(len(lines), 400, path)
            self.assertLessEqual(max(map(len, lines)), 120, path)
            self.assertTrue(all(" " <= sign <= "~" for line in lines for sign in line), path)
            for node in ast.walk(tree):
                if isinstance(node, ast.FunctionDef):
                    self.assertLessEqual(node.end_lineno - node.lineno + 1, 40, (path, node.name))

    def test_imports_are_of_the_package(self):
        for path, tree in self.trees():
            for node in ast.walk(tree):
                self.assertNotIsInstance(node, ast.Import, path)
                if isinstance(node, ast.ImportFrom) and node.module in LIBRARY:
                    self.assertLessEqual({alias.name for alias in node.names}, set(LIBRARY[node.module]), path)
                elif isinstance(node, ast.ImportFrom):
                    self.assertTrue(node.module.startswith("openchange."), path)
                    source = ast.parse((PACKAGE / (node.module.split(".")[1] + ".py")).read_text())
                    defined = [made.name for made in source.body if isinstance(made, (ast.FunctionDef, ast.ClassDef))]
                    defined += [made.targets[0].id for made in source.body if isinstance(made, ast.Assign)]
                    for alias in node.names:
                        self.assertIn(alias.name, defined, path)


if __name__ == "__main__":
    unittest.main()
