"""The interface's names and arguments, and those rules of the code's form that a few lines can see."""

import ast
import importlib
import inspect
import unittest
import warnings
from pathlib import Path

FOLDER = Path(__file__).resolve().parent.parent / "gatebeats"

INTERFACE = {
    "rows": {"is_row": 1, "counted": 3, "gaps": 1},
    "rates": {"by_count": 3, "by_time": 3, "sharper": 3},
    "gates": {"in_gates": 5, "lost": 5, "mean": 1, "spread": 1},
    "pairs": {"to_next": 2, "longest_wait": 2, "between": 2},
    "periods": {"steady": 3, "can_count": 2, "bounds": 1, "can_be_steady": 1, "simplest": 1, "phase_for": 1},
    "texts": {"row_text": 1, "read_row": 1},
    "working": {"shifted": 2, "merged": 2, "cut_out": 3, "divided": 2, "slowed": 2, "missing": 2},
    "stretches": {"longest_steady": 1, "steady_parts": 1, "strays": 1},
    "matching": {"couples": 3, "alone": 3, "best_shift": 3, "farthest": 2},
    "tapes": {"tape_text": 1, "read_tape": 1},
}

BACK_AND_FORTH = {"back": 0, "forth": 0, "steps": 0, "twin": 0}

# Of classes the arguments of methods are told without the object itself.
CLASSES = {
    "counters": {"Counter": {"__init__": 4, "go_on": 2, "over": 0, "now": 0}},
    "meters": {
        "Meter": {"__init__": 3, "beats": 1, "rest": 1, "clock": 0, "held": 0, "word": 0, **BACK_AND_FORTH},
    },
    "tapes": {
        "Tape": {"__init__": 0, "put": 1, "rub": 2, "insert": 2, "cut": 2, "row": 0, **BACK_AND_FORTH},
    },
}

BUILTINS = set(
    "len range enumerate zip min max sum abs sorted reversed int str bool bytes list tuple dict set isinstance ord"
    " repr any all divmod ValueError KeyError IndexError LookupError ZeroDivisionError NotImplementedError".split()
)

BARRED_WORDS = set(
    "type typing enum Enum IntEnum StrEnum Flag IntFlag Generic Protocol ABC ABCMeta namedtuple NamedTuple TypedDict"
    " abstractmethod dataclass overload contextmanager global async".split()
)


def sources():
    return {path.name: path.read_text(encoding="utf-8") for path in sorted(FOLDER.glob("*.py"))}


class InterfaceTest(unittest.TestCase):
    def test_functions_and_their_arguments(self):
        for module, functions in INTERFACE.items():
            held = importlib.import_module("gatebeats." + module)
            for name, many in functions.items():
                with self.subTest(module=module, name=name):
                    function = getattr(held, name)
                    self.assertEqual(function.__module__, "gatebeats." + module)
                    self.assertEqual(len(inspect.signature(function).parameters), many)

    def test_classes_and_their_methods(self):
        for module, classes in CLASSES.items():
            held = importlib.import_module("gatebeats." + module)
            for name, methods in classes.items():
                self.assertEqual(getattr(held, name).__module__, "gatebeats." + module)
                for method, many in methods.items():
                    with self.subTest(module=module, name=name, method=method):
                        # A class's own dict has no method that it only inherits.
                        function = vars(getattr(held, name))[method]
                        self.assertEqual(len(inspect.signature(function).parameters), many + 1)


class FormTest(unittest.TestCase):
    def test_the_folder_holds_sources_alone(self):
        others = [path.name for path in FOLDER.iterdir() if path.suffix != ".py" and path.name != "__pycache__"]
        self.assertEqual(others, [])
        self.assertTrue((FOLDER / "__init__.py").is_file())

    def test_characters_and_sizes(self):
        for name, text in sources().items():
            with self.subTest(name=name):
                self.assertEqual([sign for sign in text if sign != "\n" and not " " <= sign <= "~"], [])
                self.assertLessEqual(len(text.splitlines()), 400)
                self.assertLessEqual(max(len(line) for line in text.splitlines()), 120)

    def test_functions_are_small(self):
        for name, text in sources().items():
            for node in ast.walk(ast.parse(text)):
                if isinstance(node, ast.FunctionDef):
                    with self.subTest(name=name, function=node.name):
                        self.assertLessEqual(node.end_lineno - node.lineno + 1, 40)

    def test_barred_words(self):
        for name, text in sources().items():
            words = "".join(sign if sign.isalnum() or sign == "_" else " " for sign in text).split()
            with self.subTest(name=name):
                self.assertEqual(sorted(BARRED_WORDS & set(words)), [])

    def test_imports_are_of_the_package(self):
        for name, text in sources().items():
            for node in ast.walk(ast.parse(text)):
                with self.subTest(name=name):
                    self.assertNotIsInstance(node, ast.Import)
                    if isinstance(node, ast.ImportFrom):
                        self.assertEqual(node.level, 0)
                        self.assertTrue(node.module.startswith("gatebeats."))

    def test_no_name_is_a_method_and_an_attribute(self):
        methods, attributes = set(), set()
        for text in sources().values():
            for node in ast.walk(ast.parse(text)):
                if isinstance(node, ast.ClassDef):
                    methods |= {each.name for each in node.body if isinstance(each, ast.FunctionDef)}
                if isinstance(node, ast.Attribute) and isinstance(node.ctx, ast.Store):
                    attributes.add(node.attr)
        self.assertEqual(sorted(methods & attributes), [])
        self.assertEqual([name for name in sorted(methods | attributes) if name[0] == "_" and name != "__init__"], [])

    def test_only_the_allowed_builtins(self):
        barred = set(dir(__builtins__) if not isinstance(__builtins__, dict) else __builtins__) - BUILTINS
        barred -= {"True", "False", "None"}
        for name, text in sources().items():
            names = {node.id for node in ast.walk(ast.parse(text)) if isinstance(node, ast.Name)}
            with self.subTest(name=name):
                self.assertEqual(sorted(names & barred), [])

    def test_python_gives_no_warning(self):
        for name, text in sources().items():
            with self.subTest(name=name), warnings.catch_warnings():
                warnings.simplefilter("error")
                compile(text, name, "exec")


if __name__ == "__main__":
    unittest.main()
