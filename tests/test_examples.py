"""The examples of the document, as they stand in it."""

import unittest

from wordreach.errors import ReachError

# One text after the other, in the document's order: later examples use earlier names.
EXAMPLES = (
    ("section 4", '''
>>> from wordreach.tables import is_shape, known_table, number_of, result_bit, words_of
>>> (is_shape((4, 2)), is_shape((5, 2)), words_of((2, 2), 9), number_of((2, 2), (1, 2)))
(True, False, (1, 2), 9)
>>> carry = known_table((2, 2), "sum")
>>> (carry, result_bit((2, 2), carry, 1)[:8])
((0, 1, 2, 3, 1, 2, 3, 0, 2, 3, 0, 1, 3, 0, 1, 2), (0, 0, 1, 1, 0, 1, 1, 0))
'''),
    ("section 5", '''
>>> from wordreach.terms import counting_bits, light_weight, table_from, terms, weight
>>> (terms((2, 2), carry, 0), terms((2, 2), carry, 1), weight((2, 2), 5), weight((2, 2), 9), light_weight((2, 2), 9))
((1, 4), (2, 5, 8), 2, 3, 2)
>>> (table_from((2, 1), ((1,), (0, 3))), counting_bits((2, 2), carry, 0))
((2, 3, 2, 1), 5)
'''),
)


def steps_of(text):
    """Return pairs of a line of code and what must be shown for it ("" for nothing)."""
    steps = []
    for line in text.strip().split("\n"):
        if line.startswith(">>> "):
            steps.append((line[4:], ""))
        else:
            steps[-1] = (steps[-1][0], line)
    return steps


def shown(code, names):
    """Return what the document shows for a line of code."""
    try:
        if code.startswith("from ") or " = " in code:
            exec(code, names)
            return ""
        return repr(eval(code, names))
    except ReachError as error:
        kept = ", ".join(f"{name}={value!r}" for name, value in vars(error).items())
        return f"raises {type(error).__name__}({kept})"


class Examples(unittest.TestCase):
    def test_examples(self):
        names = {}
        count = 0
        for section, text in EXAMPLES:
            for code, wanted in steps_of(text):
                with self.subTest(section=section, code=code):
                    self.assertEqual(shown(code, names), wanted)
                count += 1
        self.assertEqual(count, 7)

    def test_numbers_within_the_text(self):
        names = {}
        shown("from wordreach.tables import known_table", names)
        shown("from wordreach.terms import terms", names)
        self.assertEqual(shown('terms((2, 2), known_table((2, 2), "sum"), 1)', names), "(2, 5, 8)")
        self.assertEqual(shown('terms((3, 2), known_table((3, 2), "product"), 0)', names), "(9,)")
        self.assertEqual(shown('terms((2, 2), known_table((2, 2), "sum"), 2)', names), "raises NoPlace(value=2)")


if __name__ == "__main__":
    unittest.main()
