"""The examples of the document, as they stand in it."""

import unittest

from wordreach.errors import ReachError

# One text after the other, in the document's order: later examples use earlier names.
EXAMPLES = (
    ("section 4", '''
>>> from wordreach.tables import is_shape, known_table, number_of, result_bit, words_of
>>> (is_shape((4, 2)), is_shape((5, 2)), words_of((2, 2), 9), number_of((2, 2), (1, 2)))
(True, False, (1, 2), 9)
>>> carry = known_table((2, 2), "sum")
>>> (carry, result_bit((2, 2), carry, 1)[:8])
((0, 1, 2, 3, 1, 2, 3, 0, 2, 3, 0, 1, 3, 0, 1, 2), (0, 0, 1, 1, 0, 1, 1, 0))
'''),
    ("section 5", '''
>>> from wordreach.terms import counting_bits, light_weight, table_from, terms, weight
>>> (terms((2, 2), carry, 0), terms((2, 2), carry, 1), weight((2, 2), 5), weight((2, 2), 9), light_weight((2, 2), 9))
((1, 4), (2, 5, 8), 2, 3, 2)
>>> (table_from((2, 1), ((1,), (0, 3))), counting_bits((2, 2), carry, 0))
((2, 3, 2, 1), 5)
'''),
    ("section 6", '''
>>> from wordreach.sets import instructions_of, is_within, set_names
>>> (set_names()[:3], instructions_of("monotone up"), is_within("adding", "any up"), is_within("monotone", "adding"))
(('adding', 'affine', 'affine both'), ('and', 'const', 'mask', 'or', 'up'), True, False)
'''),
    ("section 7", '''
>>> from wordreach.judging import bit_fits, computes, given_bits, least_sets, sets_for
>>> product = known_table((3, 2), "product")
>>> (computes("adding", (2, 2), carry), computes("adding", (3, 2), product), given_bits("adding", (3, 2), product), computes("multiplying", (3, 2), product))
(True, False, 0, True)
>>> (sets_for((2, 2), carry), least_sets((2, 2), carry), least_sets((2, 2), known_table((2, 2), "and")))
(('adding', 'any both', 'any up', 'multiplying'), ('adding',), ('monotone',))
'''),
    ("section 8", '''
>>> from wordreach.evidence import evidence_against, shows_against
>>> (evidence_against("adding", (2, 2), carry), shows_against("adding", (3, 2), product, ("heavy", 0, 9)), shows_against("adding", (2, 2), carry, ("heavy", 1, 5)))
(None, True, False)
>>> (shows_against("monotone", (2, 2), carry, ("apart", 1, 0, 5)), shows_against("monotone up", (2, 2), carry, ("falls", 1, 2, 10)))
(True, True)
'''),
    ("section 9", '''
>>> from wordreach.programs import first_difference, is_of, is_program, run, table_of, values_of, words_used
>>> double = (("up", 0), ("mask", 2, 2), ("xor", 3, 1))
>>> (run((2, 2), double, (1, 3)), list(values_of((2, 2), double, (1, 3))), words_used(double), is_of("adding", double))
(1, [1, 3, 2, 2, 1], ('mask', 'up', 'xor'), True)
>>> (is_program((2, 1), (("up", 1),)), table_of((2, 1), (("sub", 0, 0),)), first_difference((2, 1), (("up", 0),), (("add", 0, 0), ("mask", 1, 2), ("not", 2))))
(False, (0, 0, 0, 0), 0)
'''),
    ("section 10", '''
>>> from wordreach.trimming import chained, narrowed, numbered, trimmed
>>> long = (("up", 0), ("not", 1), ("up", 0), ("add", 2, 4))
>>> (trimmed(long, inputs=2), numbered(long, inputs=2), narrowed((("mask", 0, 13), ("up", 1)), 2))
((('up', 0), ('up', 0), ('add', 2, 3)), (('up', 0), ('not', 1), ('add', 2, 2)), (('mask', 0, 1), ('up', 1)))
>>> chained((("up", 0), ("add", 2, 1)), (("sub", 0, 1), ("not", 2)), inputs=2)
(('up', 0), ('add', 2, 1), ('sub', 3, 1), ('not', 4))
'''),
    ("section 11", '''
>>> from wordreach.building import part_program, program_for
>>> table_of((2, 2), program_for("adding", (2, 2), carry)) == carry
True
>>> (is_of("adding", program_for("adding", (2, 2), carry)), table_of((2, 2), part_program("affine up", (2, 2), carry))[:6])
(True, (0, 1, 0, 1, 1, 0))
>>> program_for("affine up", (2, 2), carry)
raises NotComputed(value=1)
'''),
    ("section 12", '''
>>> from wordreach.merging import least_place, shows_tree, tree_for
>>> (least_place((3, 2), 9), least_place((3, 2), 11), shows_tree((3, 2), 11, 2, ("join", ("join", 0, 3), 1)), shows_tree((3, 2), 9, 2, ("raise", ("join", 0, 3))))
(1, 2, True, True)
>>> tree_for((3, 2), 11, 1)
raises TooLow(value=2)
'''),
    ("section 13", '''
>>> from wordreach.counting import count_functions, count_monotone, count_terms
>>> ([count_monotone(bits) for bits in range(5)], count_terms("adding", (2, 2), 1), count_terms("multiplying", (2, 2), 1))
([2, 3, 6, 20, 168], 6, 12)
>>> (count_functions("affine", (1, 2)), count_functions("adding", (2, 2)), count_functions("monotone up", (2, 1)))
(8, 512, 18)
'''),
    ("section 14", '''
>>> from wordreach.expressions import constant, input_words
>>> x, y = input_words((2, 2))
>>> mixed = (x & y) | (x & 2)
>>> ((x + y).table == carry, mixed((3, 1)), mixed[1][:4], "or" in mixed, "add" in mixed)
(True, 3, (0, 0, 1, 1), True, False)
>>> (x ^ x == constant((2, 2), 0), (x & y).lies_in(x), bool(x - x), (~x)((1, 0)), (3 - x)((1, 0)), (x << 1)((3, 0)))
(True, True, False, 2, 2, 2)
>>> x + 4
raises InvalidOperand(value=4)
'''),
    ("section 15", r'''
>>> from wordreach.formats import format_evidence, format_program, format_table, parse_program, parse_table
>>> (format_program(double), format_table((0, 3)), format_evidence(("heavy", 0, 9)), parse_program((2, 1), "up 0\nadd 0 1"))
('up 0\nmask 2 2\nxor 3 1', '0 3', 'heavy 0 9', (('up', 0), ('add', 0, 1)))
>>> parse_program((2, 1), "up 0\nadd 0 2")
raises ParseError(index=1)
>>> parse_table((1, 1), "0 1 1")
raises ParseError(index=2)
'''),
    ("section 16", '''
>>> from wordreach.session import Session
>>> session = Session((2, 2))
>>> [session.run("add 0 1"), session.run("mask 2 2"), session.run("call 1 1"), session.run("bits affine-up"), session.run("undo"), session.run("show")]
['2', '3', '2', '1', 'done', 'add 0 1']
>>> session.run("up 7")
raises InvalidOperand(value=7)
'''),
)


def steps_of(text):
    """Return pairs of a line of code and what must be shown for it ("" for nothing)."""
    steps = []
    for line in text.strip().split("\n"):
        if line.startswith(">>> "):
            steps.append((line[4:], ""))
        else:
            steps[-1] = (steps[-1][0], line)
    return steps


def shown(code, names):
    """Return what the document shows for a line of code."""
    try:
        if code.startswith("from ") or " = " in code:
            exec(code, names)
            return ""
        return repr(eval(code, names))
    except ReachError as error:
        kept = ", ".join(f"{name}={value!r}" for name, value in vars(error).items())
        return f"raises {type(error).__name__}({kept})"


class Examples(unittest.TestCase):
    def test_examples(self):
        names = {}
        count = 0
        for section, text in EXAMPLES:
            for code, wanted in steps_of(text):
                with self.subTest(section=section, code=code):
                    self.assertEqual(shown(code, names), wanted)
                count += 1
        self.assertEqual(count, 48)

    def test_numbers_within_the_text(self):
        names = {}
        shown("from wordreach.tables import known_table", names)
        shown("from wordreach.terms import terms", names)
        self.assertEqual(shown('terms((2, 2), known_table((2, 2), "sum"), 1)', names), "(2, 5, 8)")
        self.assertEqual(shown('terms((3, 2), known_table((3, 2), "product"), 0)', names), "(9,)")
        self.assertEqual(shown('terms((2, 2), known_table((2, 2), "sum"), 2)', names), "raises NoPlace(value=2)")


if __name__ == "__main__":
    unittest.main()
