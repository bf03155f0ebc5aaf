"""The interface as the document lists it, and the rules for files that a test can see."""

import ast
import importlib
import inspect
import os
import unittest

FOLDER = os.path.join(os.path.dirname(os.path.dirname(os.path.abspath(__file__))), "wordreach")

# Each function of the interface, with its arguments; those behind a * are passed by name alone.
FUNCTIONS = {
    "tables": {
        "is_shape": ("value",),
        "is_table": ("shape", "value"),
        "words_of": ("shape", "number"),
        "number_of": ("shape", "words"),
        "known_table": ("shape", "name"),
        "result_bit": ("shape", "table", "place"),
    },
    "terms": {
        "terms": ("shape", "table", "place"),
        "table_from": ("shape", "rows"),
        "weight": ("shape", "term"),
        "light_weight": ("shape", "term"),
        "counting_bits": ("shape", "table", "place"),
    },
    "sets": {
        "set_names": (),
        "instructions_of": ("name",),
        "is_within": ("name", "other"),
    },
    "judging": {
        "bit_fits": ("name", "shape", "table", "place"),
        "given_bits": ("name", "shape", "table"),
        "computes": ("name", "shape", "table"),
        "sets_for": ("shape", "table"),
        "least_sets": ("shape", "table"),
    },
    "evidence": {
        "evidence_against": ("name", "shape", "table"),
        "shows_against": ("name", "shape", "table", "value"),
    },
    "programs": {
        "is_program": ("shape", "value"),
        "run": ("shape", "program", "words"),
        "values_of": ("shape", "program", "words"),
        "table_of": ("shape", "program"),
        "words_used": ("program",),
        "is_of": ("name", "program"),
        "first_difference": ("shape", "one", "other"),
    },
    "trimming": {
        "trimmed": ("program", "*", "inputs"),
        "numbered": ("program", "*", "inputs"),
        "narrowed": ("program", "width"),
        "chained": ("first", "second", "*", "inputs"),
    },
    "building": {
        "program_for": ("name", "shape", "table"),
        "part_program": ("name", "shape", "table"),
    },
    "merging": {
        "least_place": ("shape", "term"),
        "tree_for": ("shape", "term", "place"),
        "shows_tree": ("shape", "term", "place", "value"),
    },
    "counting": {
        "count_terms": ("name", "shape", "place"),
        "count_monotone": ("bits",),
        "count_functions": ("name", "shape"),
    },
    "expressions": {
        "input_words": ("shape",),
        "constant": ("shape", "word"),
    },
    "formats": {
        "format_program": ("program",),
        "format_table": ("table",),
        "format_evidence": ("evidence",),
        "parse_program": ("shape", "text"),
        "parse_table": ("shape", "text"),
    },
}

# Each class of the interface but the errors, with its methods by name and their arguments, and its properties.
CLASSES = {
    "expressions": {
        "Expression": (
            {"lies_in": ("self", "b"), "__call__": ("self", "words")}, ("shape", "table", "program"),
        ),
    },
    "session": {
        "Session": ({"run": ("self", "command"), "history": ("self",)}, ("shape", "program")),
    },
}

# The operators of expressions, each with one other operand or none.
OPERATORS = {
    2: "and rand or ror xor rxor add radd sub rsub mul rmul lshift rshift eq getitem contains".split(),
    1: "invert bool".split(),
}


def files():
    """Return the names of all files of the package; Python itself makes the folder __pycache__."""
    return sorted(name for name in os.listdir(FOLDER) if name != "__pycache__")


def source(name):
    """Return the text of a file of the package."""
    with open(os.path.join(FOLDER, name), encoding="utf-8", newline="") as file:
        return file.read()


def functions_of(tree):
    """Return all functions and methods below a tree."""
    return [node for node in ast.walk(tree) if isinstance(node, ast.FunctionDef)]


class Interface(unittest.TestCase):
    def test_functions(self):
        for module, functions in FUNCTIONS.items():
            found = importlib.import_module("wordreach." + module)
            for name, arguments in functions.items():
                with self.subTest(module=module, name=name):
                    function = getattr(found, name)
                    self.assertEqual(function.__module__, "wordreach." + module)
                    self.check_arguments(function, arguments)

    def check_arguments(self, function, arguments):
        """Check the names of all arguments, and that just those behind a * are passed by name alone."""
        parameters = inspect.signature(function).parameters
        self.assertEqual(tuple(parameters), tuple(name for name in arguments if name != "*"))
        by_name = arguments[arguments.index("*") + 1:] if "*" in arguments else ()
        for name, parameter in parameters.items():
            kind = inspect.Parameter.KEYWORD_ONLY if name in by_name else inspect.Parameter.POSITIONAL_OR_KEYWORD
            self.assertIs(parameter.kind, kind, name)
            self.assertIs(parameter.default, inspect.Parameter.empty, name)


class Classes(unittest.TestCase):
    def test_methods_and_properties(self):
        for module, classes in CLASSES.items():
            found = importlib.import_module("wordreach." + module)
            for name, (methods, properties) in classes.items():
                kind = getattr(found, name)
                self.assertEqual(kind.__module__, "wordreach." + module)
                # What the document lists stands in the class itself, not in a base class.
                for method, arguments in methods.items():
                    self.assertEqual(tuple(inspect.signature(vars(kind)[method]).parameters), arguments)
                for attribute in properties:
                    self.assertIsInstance(vars(kind)[attribute], property)
                    self.assertIsNone(vars(kind)[attribute].fset)

    def test_operators(self):
        kind = importlib.import_module("wordreach.expressions").Expression
        for many, words in OPERATORS.items():
            for word in words:
                self.assertEqual(len(inspect.signature(vars(kind)[f"__{word}__"]).parameters), many, word)
        # A move has no other side.
        self.assertFalse(hasattr(kind, "__rlshift__") or hasattr(kind, "__rrshift__"))

    def test_arguments_of_a_session(self):
        parameters = inspect.signature(importlib.import_module("wordreach.session").Session).parameters
        self.assertEqual(tuple(parameters), ("shape", "most"))
        self.assertIs(parameters["shape"].kind, inspect.Parameter.POSITIONAL_OR_KEYWORD)
        self.assertIs(parameters["most"].kind, inspect.Parameter.KEYWORD_ONLY)
        self.assertEqual(parameters["most"].default, 400)


class Files(unittest.TestCase):
    def test_folder(self):
        self.assertIn("__init__.py", files())
        for name in files():
            with self.subTest(name=name):
                self.assertTrue(os.path.isfile(os.path.join(FOLDER, name)))
                self.assertRegex(name, r"^[a-z_]+\.py$")

    def test_characters_and_sizes(self):
        for name in files():
            lines = source(name).split("\n")
            with self.subTest(name=name):
                self.assertLessEqual(len(lines), 400)
                self.assertEqual(lines[-1], "")
                self.assertTrue(all(len(line) <= 120 for line in lines))
                self.assertTrue(all(" " <= character <= "~" for line in lines for character in line))
                for function in functions_of(ast.parse(source(name))):
                    self.assertLessEqual(function.end_lineno - function.lineno + 1, 40, function.name)

    def test_imports(self):
        library = ("heapq", "math", "itertools", "collections")
        for name in files():
            for node in ast.walk(ast.parse(source(name))):
                self.assertNotIsInstance(node, ast.Import, name)
                if isinstance(node, ast.ImportFrom):
                    self.assertEqual(node.level, 0)
                    self.assertTrue(node.module.startswith("wordreach.") or node.module in library, node.module)


if __name__ == "__main__":
    unittest.main()
