"""What holds for every file of the package: point 3, where the interface stands, and rule L6 for captured names."""

import ast
import pathlib
import unittest

PACKAGE = pathlib.Path(__file__).resolve().parent.parent / "vancourier"
FORBIDDEN = ("open", "input", "print", "exec", "eval", "compile", "globals", "vars", "__import__", "id", "hash")

# Each name of the interface with its arguments, for a class those of the methods of its own body.
INTERFACE = {
    "errors": {"CourierError": {}, "BadModel": {}, "BadMark": {}, "BadAct": {}},
    "forms": {"check_model": "value", "check_placing": "model placing", "first_state": "model number"},
    "meaning": {"run_handler": "model number state time name arg"},
    "plain": {
        "start_events": "model",
        "Plain": {"__init__": "model", "step": "", "history": "", "states": "", "waiting": ""},
        "run_plain": "model",
    },
    "sites": {
        "Site": {
            "__init__": "model number interval lazy", "insert": "mark event", "remove": "mark", "process": "",
            "note": "marks", "overdue": "", "least": "", "state": "", "count": "", "processed": "", "waiting": "",
            "forget": "time", "kept": "",
        },
    },
    "processor": {
        "Processor": {
            "__init__": "model placing me window interval lazy", "receive": "letter", "step": "", "visit": "token",
            "low": "", "committed": "", "kept": "", "states": "", "horizon": "",
        },
    },
    "ring": {"first_token": "end", "next_token": "token end"},
    "world": {
        "World": {
            "__init__": "model placing window interval lazy", "act": "value", "calm": "", "net": "", "token": "",
            "horizons": "", "committed": "", "states": "", "kept": "", "processors": "", "done": "",
        },
        "run_calm": "model placing window interval lazy",
    },
    "notation": {"model_text": "model", "parse_model": "text"},
    "console": {"run_console": "text"},
}


def trees():
    return [(path, ast.parse(path.read_text("utf-8"))) for path in sorted(PACKAGE.glob("*.py"))]


def arguments(node):
    """Returns the names of the arguments of a function."""
    return [arg.arg for arg in node.args.args]


def captured_names(function):
    """Returns the names that the cases of a function capture."""
    patterns = [node for node in ast.walk(function) if isinstance(node, (ast.MatchAs, ast.MatchStar))]
    return {pattern.name for pattern in patterns} - {None}


def other_names(function):
    """Returns the names that a function has otherwise: parameters, and what is assigned, looped over or nonlocal."""
    names = set()
    for node in ast.walk(function):
        if isinstance(node, ast.arg):
            names.add(node.arg)
        elif isinstance(node, ast.Name) and not isinstance(node.ctx, ast.Load):
            names.add(node.id)
        elif isinstance(node, (ast.Global, ast.Nonlocal)):
            names.update(node.names)
        elif isinstance(node, ast.ExceptHandler) and node.name is not None:
            names.add(node.name)
    return names


class PackageTest(unittest.TestCase):
    def test_the_folder_holds_plain_files_only(self):
        for path in PACKAGE.iterdir():
            if path.name != "__pycache__":
                self.assertTrue(path.is_file() and path.suffix == ".py", path)

    def test_no_imports_but_the_programs_own_modules(self):
        modules = ["vancourier." + path.stem for path, tree in trees()]
        for path, tree in trees():
            for node in ast.walk(tree):
                self.assertNotIsInstance(node, ast.Import, path)
                if isinstance(node, ast.ImportFrom):
                    self.assertEqual(node.level, 0, path)
                    self.assertIn(node.module, modules, path)

    def test_no_builtin_that_reaches_outside(self):
        for path, tree in trees():
            names = [node.id for node in ast.walk(tree) if isinstance(node, ast.Name)]
            for name in FORBIDDEN:
                self.assertNotIn(name, names, path)

    def test_the_interface_is_defined_in_its_files(self):
        found = {path.stem: tree for path, tree in trees()}
        for module, names in INTERFACE.items():
            nodes = {node.name: node for node in found[module].body if hasattr(node, "name")}
            for name, wanted in names.items():
                with self.subTest(module=module, name=name):
                    if isinstance(wanted, str):
                        self.assertEqual(arguments(nodes[name]), wanted.split())
                    else:
                        self.assertIsInstance(nodes[name], ast.ClassDef)
                        own = {node.name: node for node in nodes[name].body if hasattr(node, "name")}
                        for method, told in wanted.items():
                            self.assertEqual(arguments(own[method]), ["self"] + told.split())

    def test_sizes_and_characters(self):
        for path, tree in trees():
            lines = path.read_text("utf-8").split("\n")
            self.assertLessEqual(len(lines), 399, path)
            for line in lines:
                self.assertTrue(len(line) <= 120 and all(" " <= sign <= "~" for sign in line), (path, line))
            for node in ast.walk(tree):
                if isinstance(node, ast.FunctionDef):
                    self.assertLessEqual(node.end_lineno - node.lineno + 1, 40, (path, node.name))

    def test_captured_names_have_no_other_use(self):
        # Rule L6: a captured name is no parameter and no loop variable, and is not assigned.
        for path, tree in trees():
            for node in ast.walk(tree):
                if isinstance(node, ast.FunctionDef):
                    shared = captured_names(node) & other_names(node)
                    self.assertEqual(shared, set(), (path, node.name, node.lineno))

    def test_the_check_of_captured_names_finds_each_other_use(self):
        rows = {
            "def f(e):\n match e:\n  case [a, *rest]: return [b for b in rest]": set(),
            "def f(e):\n match e:\n  case [a, *rest]: return [a for a in rest]": {"a"},
            "def f(e):\n match e:\n  case [a, *rest]:\n   for rest in e: pass": {"rest"},
            "def f(e):\n match e:\n  case [a, _] as e: return a": {"e"},
            "def f(e):\n match e:\n  case [a, b]:\n   a = b": {"a"},
        }
        for text, wanted in rows.items():
            with self.subTest(text=text):
                tree = ast.parse(text)
                self.assertEqual(captured_names(tree) & other_names(tree), wanted)


if __name__ == "__main__":
    unittest.main()
