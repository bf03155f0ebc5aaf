"""Section 3: the guarantees, where they tie several sections together.

Guarantee (d) is tested in tests/test_trimming.py, guarantee (e) in tests/test_merging.py.
"""

import unittest

from tests.drawn import NAMES, bent_tables, fitting_table, fitting_terms, flipped, general_tables, led_along
from tests.reference import FORMS, RESULTS, SETS, all_words, drawn_program, table_of_terms
from tests.values import SHAPES, scattered, scattered_table
from wordreach.building import part_program, program_for
from wordreach.counting import count_functions
from wordreach.errors import NotComputed
from wordreach.evidence import evidence_against, shows_against
from wordreach.formats import format_evidence, format_program, format_table, parse_program, parse_table
from wordreach.judging import bit_fits, computes, given_bits, sets_for
from wordreach.programs import is_of, is_program, table_of
from wordreach.session import Session


def moved(shape, word, tables):
    """Return the tables to which an instruction leads from the given ones, tried on all operands."""
    width = shape[0]
    if FORMS[word] == "w":
        return [(c,) * len(tables[0]) for c in range(2 ** width)]
    if FORMS[word] == "vw":
        return [tuple(a & c for a in tables[0]) for c in range(2 ** width)]
    known = [dict() for _ in range(2 ** width)]
    for a in range(2 ** width):
        for b in range(2 ** width) if FORMS[word] == "vv" else (0,):
            known[a][b] = RESULTS[word](width, a, b) if FORMS[word] == "vv" else RESULTS[word](width, a)
    if FORMS[word] == "v":
        return [tuple(known[a][0] for a in tables[0])]
    return [tuple(known[a][b] for a, b in zip(tables[0], other)) for other in tables] + [
        tuple(known[b][a] for a, b in zip(tables[0], other)) for other in tables
    ]


def reached(name, shape):
    """Return all functions that programs of a set compute: all that the instructions lead to, from the input words."""
    todo = [tuple(words[k] for words in all_words(shape)) for k in range(shape[1])]
    found = []
    seen = set(todo)
    while todo:
        table = todo.pop()
        found.append(table)
        # The new table first, then all that were there before: each pair is met once, in both orders.
        for word in SETS[name]:
            for result in moved(shape, word, [table] + found):
                if result not in seen:
                    seen.add(result)
                    todo.append(result)
    return seen


def all_tables(shape):
    """Return all tables of a small shape."""
    width, inputs = shape
    size = 2 ** (width * inputs)
    return [tuple(code // 2 ** (width * n) % 2 ** width for n in range(size)) for code in range(2 ** (width * size))]


class AllPrograms(unittest.TestCase):
    def test_a_set_computes_what_its_programs_compute(self):
        for shape in ((1, 1), (1, 2), (1, 3), (2, 1)):
            tables = all_tables(shape)
            for name in NAMES:
                functions = reached(name, shape)
                with self.subTest(shape=shape, name=name):
                    self.assertEqual(len(functions), count_functions(name, shape))
                    self.assertEqual({table for table in tables if computes(name, shape, table)}, functions)
                    self.assertEqual({t for t in tables if evidence_against(name, shape, t) is None}, functions)

    def test_given_bits_are_those_that_some_program_computes(self):
        for shape in ((1, 1), (1, 2), (2, 1), (1, 3)):
            width = shape[0]
            tables = all_tables(shape)
            for name in NAMES:
                functions = reached(name, shape)
                rows = [{tuple(r // 2 ** p % 2 for r in table) for table in functions} for p in range(width)]
                parts = [{tuple(r & bits for r in table) for table in functions} for bits in range(2 ** width)]
                for table in tables:
                    bits = given_bits(name, shape, table)
                    wanted = sum(2 ** p for p in range(width) if tuple(r // 2 ** p % 2 for r in table) in rows[p])
                    self.assertEqual(bits, wanted, (name, table))
                    self.assertTrue(tuple(r & bits for r in table) in parts[bits], (name, table))

    def test_two_words_of_two_bits(self):
        for name, many in (("monotone", 36), ("affine", 64), ("affine up", 256), ("affine down", 256), ("adding", 512)):
            functions = reached(name, (2, 2))
            self.assertEqual(len(functions), many)
            self.assertEqual(count_functions(name, (2, 2)), many)
            for table in functions:
                self.assertIs(computes(name, (2, 2), table), True)
                self.assertIsNone(evidence_against(name, (2, 2), table))
            for place in range(2):
                rows = {tuple(result // 2 ** place % 2 for result in table) for table in functions}
                for code in scattered(150, 2 ** 16, place + 2):
                    row = tuple(code // 2 ** n % 2 for n in range(16))
                    table = tuple(2 ** place * bit for bit in row)
                    self.assertIs(bit_fits(name, (2, 2), table, place), row in rows)

    def test_words_of_three_bits(self):
        # All functions of a set, one for each choice of fitting terms, are computed; and no others.
        for name, shape in (("affine", (3, 1)), ("affine up", (3, 1)), ("adding", (2, 2)), ("affine down", (3, 1))):
            choices = [fitting_terms(name, shape, place) for place in range(shape[0])]
            wanted = set()
            for code in range(2 ** sum(len(row) for row in choices)):
                rows = []
                for row in choices:
                    rows.append([term for k, term in enumerate(row) if code // 2 ** k % 2])
                    code //= 2 ** len(row)
                wanted.add(table_of_terms(shape, rows))
            self.assertEqual(reached(name, shape), wanted, name)
            self.assertEqual(len(wanted), count_functions(name, shape))


class DrawnPrograms(unittest.TestCase):
    def check(self, name, shape, program):
        """Check that the function of a program of a set fits the set."""
        self.assertIs(is_program(shape, program), True)
        self.assertIs(is_of(name, program), True)
        table = table_of(shape, program)
        self.assertEqual(given_bits(name, shape, table), 2 ** shape[0] - 1, (name, shape, program))
        self.assertIs(computes(name, shape, table), True)
        self.assertIsNone(evidence_against(name, shape, table))
        built = program_for(name, shape, table)
        self.assertIs(is_of(name, built), True)
        self.assertEqual(table_of(shape, built), table)
        return table

    def test_a_program_of_a_set_computes_what_fits_it(self):
        for shape in SHAPES:
            few = shape[0] * shape[1] <= 6
            for name in NAMES:
                for many in (1, 2, 4, 8, 16, 32, 64) if few else (3, 12, 40):
                    self.check(name, shape, drawn_program(SETS[name], shape, many, many + 5 * shape[0]))

    def test_400_instructions(self):
        for shape in ((2, 2), (4, 2), (8, 1), (2, 4)):
            for name in NAMES:
                self.check(name, shape, drawn_program(SETS[name], shape, 400, 11))

    def test_nothing_shows_against_what_is_computed(self):
        for shape in ((2, 2), (1, 4), (3, 1)):
            size = 2 ** (shape[0] * shape[1])
            for name in NAMES:
                table = self.check(name, shape, drawn_program(SETS[name], shape, 12, 77))
                numbers = scattered(400, size, 6)
                for k in range(0, 400, 4):
                    place = numbers[k] % shape[0]
                    a, b, c = numbers[k + 1:k + 4]
                    for value in (
                        ("apart", place, a, b), ("falls", place, a & b, b), ("four", place, a, b, c),
                        ("heavy", place, a),
                    ):
                        self.assertIs(shows_against(name, shape, table, value), False)

    def test_the_bits_that_a_program_gives(self):
        # Whatever bits of a table a program of the set computes are given, and one program has all of them.
        for shape in ((2, 2), (3, 1), (3, 2), (4, 1)):
            other = scattered_table(shape, 8)
            for k, name in enumerate(NAMES):
                program = drawn_program(SETS[name], shape, 9, k)
                for bits in range(2 ** shape[0]):
                    table = tuple(a & bits | b & ~bits for a, b in zip(table_of(shape, program), other))
                    given = given_bits(name, shape, table)
                    self.assertEqual(given & bits, bits)
                    part = part_program(name, shape, table)
                    self.assertIs(is_of(name, part), True)
                    self.assertEqual(table_of(shape, part), tuple(result & given for result in table))

    def test_the_sets_of_a_program_compute_it(self):
        for shape in ((2, 2), (3, 2), (4, 1)):
            for name in NAMES:
                program = drawn_program(SETS[name], shape, 6, 21)
                found = sets_for(shape, table_of(shape, program))
                for other in NAMES:
                    if is_of(other, program):
                        self.assertIn(other, found)

    def test_some_set_always_computes(self):
        for shape in SHAPES:
            self.assertIn("any both", sets_for(shape, scattered_table(shape, 3)))


class WholeProgram(unittest.TestCase):
    def drawn_tables(self, shape):
        """Return tables of a shape: some made for no set, and for each set one that fits and two that do in part."""
        tables = general_tables(shape)
        for k, name in enumerate(NAMES):
            tables += [fitting_table(name, shape, k), bent_tables(name, shape, k)[k % 7]]
            tables.append(flipped(fitting_table(name, shape, 50 + k), k % len(tables[0]), k % shape[0]))
        return tables

    def either(self, name, shape, table):
        """Check that there is either a program or evidence, and return what there is."""
        evidence = evidence_against(name, shape, table)
        try:
            program = program_for(name, shape, table)
        except NotComputed as error:
            self.assertIs(shows_against(name, shape, table, evidence), True)
            self.assertIs(bit_fits(name, shape, table, error.value), False)
            self.assertIs(computes(name, shape, table), False)
            return None, evidence
        self.assertIsNone(evidence)
        self.assertIs(computes(name, shape, table), True)
        self.assertIs(is_program(shape, program) and is_of(name, program), True)
        self.assertEqual(table_of(shape, program), table)
        return program, None

    def test_either_a_program_or_evidence(self):
        for shape in SHAPES:
            tables = self.drawn_tables(shape)
            if shape[0] * shape[1] > 5:
                tables = tables[shape[0]::6]
            if shape[0] * shape[1] == 8:
                tables = tables[:4]
            for table in tables:
                for name in NAMES:
                    program, evidence = self.either(name, shape, table)
                    self.assertNotEqual(program is None, evidence is None)

    def test_formats_sessions_and_expressions(self):
        for shape in ((1, 2), (2, 2), (3, 1), (1, 4), (2, 3)):
            for table in self.drawn_tables(shape)[shape[0]::4]:
                self.assertEqual(parse_table(shape, format_table(table)), table)
                for name in NAMES[len(set(table)) % 3::3]:
                    program, evidence = self.either(name, shape, table)
                    if program is not None and len(program) <= 400:
                        self.assertEqual(parse_program(shape, format_program(program)), program)
                        self.check_session(shape, program)
                        self.check_expression(shape, program)

    def check_session(self, shape, program):
        """Check that a session that is given a program line by line answers as the functions do."""
        session = Session(shape)
        session.run("load any-both reversed")
        session.run("undo")
        for line in format_program(program).split("\n"):
            session.run(line)
        self.assertEqual(session.program, program)
        table = table_of(shape, program)
        self.assertEqual(session.run("table"), format_table(table))
        names = [name.replace(" ", "-") for name in sets_for(shape, table)]
        self.assertEqual(session.run("sets"), " ".join(names))
        for name in NAMES:
            word = name.replace(" ", "-")
            self.assertEqual(session.run(f"bits {word}"), str(given_bits(name, shape, table)))
            evidence = evidence_against(name, shape, table)
            answer = session.run(f"why {word}")
            self.assertEqual(answer, "none" if evidence is None else format_evidence(evidence))

    def check_expression(self, shape, program):
        """Check that an expression that is led along a program has its table, by a program of the same words."""
        expression = led_along(shape, program)[-1]
        self.assertEqual(expression.table, table_of(shape, program))
        self.assertIs(is_program(shape, expression.program), True)
        self.assertEqual(table_of(shape, expression.program), expression.table)
        words = {step[0] for step in program}
        self.assertTrue({step[0] for step in expression.program} <= words | {"const", "mask"})
        self.assertTrue(all(word in words for word in FORMS if word in expression))


if __name__ == "__main__":
    unittest.main()
