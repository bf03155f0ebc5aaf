"""Section 11: building programs; and guarantees (a) and (b) where programs are built."""

import unittest

from tests.drawn import (
    KNOWN, NAMES, bent_tables, fitting_table, flipped, general_tables, input_bit_tables, tables_for, terms_within,
)
from tests.reference import FORMS, SETS, Facts, all_values, all_words, is_program, no_set_names, table_of_terms
from tests.values import SHAPES, WIDEST_SHAPES, copied, same, scattered, scattered_table
from wordreach.building import part_program, program_for
from wordreach.errors import NotComputed, UnknownName
from wordreach.evidence import evidence_against, shows_against
from wordreach.judging import computes, given_bits
from wordreach.programs import table_of
from wordreach.tables import known_table


def all_tables(shape):
    """Return all tables of a small shape."""
    width, inputs = shape
    size = 2 ** (width * inputs)
    return [tuple(code // 2 ** (width * n) % 2 ** width for n in range(size)) for code in range(2 ** (width * size))]


def wanted_bits(name, shape, table):
    """Return the word with a 1 at each place whose result bit fits."""
    return sum(2 ** place for place in range(shape[0]) if Facts(shape, table, place).fits(name))


class Built(unittest.TestCase):
    def check_program(self, name, shape, table, program):
        """Check that a value is a program of a set for a table."""
        self.assertIs(is_program(shape, program), True, (name, shape))
        self.assertTrue({step[0] for step in program} <= SETS[name], (name, shape))
        self.assertEqual(table_of(shape, program), table, (name, shape))

    def check(self, name, shape, table, given=None):
        """Check both functions for a set and a table. Return the word of the places that fit."""
        given = wanted_bits(name, shape, table) if given is None else given
        before = copied(table)
        part = part_program(name, shape, table)
        self.check_program(name, shape, tuple(result & given for result in table), part)
        evidence = evidence_against(name, shape, table)
        if given == 2 ** shape[0] - 1:
            self.check_program(name, shape, table, program_for(name, shape, table))
            self.assertIsNone(evidence)
        else:
            least = min(place for place in range(shape[0]) if given // 2 ** place % 2 == 0)
            with self.assertRaises(NotComputed) as caught:
                program_for(name, shape, table)
            self.assertTrue(same(caught.exception.value, least), (name, shape))
            self.assertIs(shows_against(name, shape, table, evidence), True)
        self.assertTrue(same(table, before))
        return given


class SmallShapes(Built):
    def test_all_tables(self):
        for shape in ((1, 1), (1, 2), (2, 1)):
            for table in all_tables(shape):
                for name in NAMES:
                    self.check(name, shape, table)

    def test_all_tables_of_three_bits(self):
        for table in all_tables((1, 3)):
            for name in NAMES:
                if name.count(" ") == 0 or name.endswith("both"):
                    self.check(name, (1, 3), table)

    def test_all_monotone_functions_of_four_bits(self):
        found = 0
        for low in all_tables((1, 3)):
            if not Facts((1, 3), low, 0).falls:
                for high in all_tables((1, 3)):
                    if all(a <= b for a, b in zip(low, high)) and not Facts((1, 3), high, 0).falls:
                        self.check_program("monotone", (1, 4), low + high, program_for("monotone", (1, 4), low + high))
                        found += 1
        self.assertEqual(found, 168)


class AllShapes(Built):
    def test_tables_that_fit(self):
        for shape in SHAPES:
            for name in NAMES:
                for seed in (5, 17) if shape[0] * shape[1] < 8 else (5,):
                    self.check(name, shape, fitting_table(name, shape, seed), 2 ** shape[0] - 1)

    def test_tables_that_fit_but_for_a_part(self):
        for shape in SHAPES:
            for k, name in enumerate(NAMES):
                many = 7 if shape[0] * shape[1] < 7 else 1
                for table in bent_tables(name, shape, 3 + k)[k % 7:][:many]:
                    self.check(name, shape, table)

    def test_tables_for_several_sets(self):
        for shape in ((2, 2), (3, 1), (1, 4), (2, 3), (5, 1)):
            for k, name in enumerate(NAMES):
                for table in tables_for(name, shape)[:3]:
                    for other in NAMES[k % 2::2]:
                        self.check(other, shape, table)

    def test_known_functions(self):
        met = set()
        for shape in SHAPES:
            for known in KNOWN:
                table = known_table(shape, known)
                facts = [Facts(shape, table, place) for place in range(shape[0])]
                for name in NAMES:
                    given = sum(2 ** place for place in range(shape[0]) if facts[place].fits(name))
                    self.check(name, shape, table, given)
                    met.add((name, known) if given == 2 ** shape[0] - 1 else ())
        # Each known function is computed by some set that has not everything, and each set computes some.
        self.assertEqual({name for name, *_ in met - {()}}, set(NAMES))

    def test_known_functions_have_short_programs(self):
        # A session of 400 instructions can load each of them.
        for shape in SHAPES:
            for known in KNOWN:
                table = known_table(shape, known)
                for name in NAMES:
                    if computes(name, shape, table):
                        self.assertLessEqual(len(program_for(name, shape, table)), 400, (name, shape, known))

    def test_general_tables(self):
        for shape in SHAPES:
            for table in general_tables(shape)[-4:]:
                for name in ("any both", "any", "affine both") if shape[0] * shape[1] > 6 else NAMES:
                    self.check(name, shape, table)

    def test_each_input_bit_at_each_place(self):
        for shape in ((1, 4), (2, 2), (4, 1), (4, 2), (8, 1)):
            for bit, place, table in input_bit_tables(shape):
                for name in NAMES if shape[0] * shape[1] < 5 else NAMES[(bit + place) % 3::3]:
                    self.check(name, shape, table)

    def test_constants(self):
        for shape in SHAPES:
            size = 2 ** (shape[0] * shape[1])
            for name in NAMES:
                for word in {0, 1, 2 ** (shape[0] - 1), 2 ** shape[0] - 1}:
                    self.check(name, shape, (word,) * size, 2 ** shape[0] - 1)


class SingleTerms(Built):
    def test_each_term_at_each_place(self):
        for shape in SHAPES:
            width, inputs = shape
            if width * inputs > 6:
                continue
            for place in range(width):
                for term in range(2 ** (width * inputs)):
                    table = table_of_terms(shape, [(term,) if other == place else () for other in range(width)])
                    for name in ("adding", "multiplying", "any up", "any down"):
                        self.check(name, shape, table)

    def test_products_of_eight_bits(self):
        for shape in WIDEST_SHAPES:
            width, inputs = shape
            for name in ("any both", "monotone both", "monotone up", "monotone down", "any up", "any down", "any"):
                for place in range(width):
                    # The product of all bits that may count.
                    term = max(terms_within(name, shape, place))
                    table = table_of_terms(shape, [(term,) if other == place else () for other in range(width)])
                    self.check(name, shape, table, 2 ** width - 1)
                    self.check(name, shape, flipped(table, 77, place))


class Parts(Built):
    def test_all_none_some(self):
        met = {"all": set(), "none": set(), "some": set()}
        for shape in ((2, 2), (3, 1), (3, 2), (4, 1), (2, 3), (6, 1)):
            tables = [known_table(shape, known) for known in KNOWN] + [scattered_table(shape, 9)]
            # At each place something else: all input bits, a term, an input bit moved, the own bit.
            width, inputs = shape
            full = 2 ** (width * inputs) - 1
            rows = ((full,), (1,), (2, 4), (1 << 3 & full,), (1,), (0, full - 1))
            tables += [table_of_terms(shape, rows[k:k + width] + rows[:max(0, k + width - 6)]) for k in range(6)]
            for table in tables:
                for name in NAMES:
                    given = self.check(name, shape, table)
                    part = table_of(shape, part_program(name, shape, table))
                    kind = "none" if given == 0 else "all" if given == 2 ** width - 1 else "some"
                    met[kind].add(name)
                    if kind == "none":
                        self.assertEqual(part, (0,) * len(table))
                    if kind == "all":
                        self.assertEqual(part, table)
        self.assertEqual(met["all"], set(NAMES))
        self.assertEqual(met["some"], set(NAMES) - {"any both"})
        self.assertEqual(met["none"], set(NAMES) - {"any both", "any up", "any down"})

    def test_eight_bits(self):
        for shape in WIDEST_SHAPES:
            for known in ("sum", "product", "greatest", "reversed", "ones"):
                table = known_table(shape, known)
                for k, name in enumerate(NAMES):
                    if k % 2 == len(known) % 2:
                        self.check(name, shape, table)

    def test_by_hand(self):
        carry = known_table((2, 2), "sum")
        self.assertEqual(table_of((2, 2), part_program("affine up", (2, 2), carry)), tuple(r & 1 for r in carry))
        self.assertEqual(table_of((2, 2), part_program("affine", (2, 2), carry)), tuple(r & 1 for r in carry))
        self.assertEqual(table_of((2, 2), part_program("monotone", (2, 2), carry)), (0,) * 16)
        self.assertEqual(table_of((2, 2), part_program("adding", (2, 2), carry)), carry)
        product = known_table((3, 2), "product")
        self.assertEqual(table_of((3, 2), part_program("any", (3, 2), product)), tuple(r & 1 for r in product))
        self.assertEqual(table_of((3, 2), part_program("adding", (3, 2), product)), (0,) * 64)


class Results(Built):
    def test_values_of_the_programs(self):
        # Run by the reference, too, not by the package alone.
        for shape in ((1, 4), (2, 2), (4, 1), (3, 2)):
            for name in NAMES:
                table = fitting_table(name, shape, 8)
                program = program_for(name, shape, table)
                found = tuple(all_values(shape, program, words)[-1] for words in all_words(shape))
                self.assertEqual(found, table)
                self.assertTrue(all(len(step) == 1 + len(FORMS[step[0]]) for step in program))

    def test_equal_calls(self):
        for name in NAMES:
            table = fitting_table(name, (2, 3), 4)
            self.assertTrue(same(program_for(name, (2, 3), table), program_for(name, (2, 3), table)))
            table = scattered_table((2, 3), 4)
            self.assertTrue(same(part_program(name, (2, 3), table), part_program(name, (2, 3), table)))

    def test_never_both(self):
        both = 0
        for shape in ((1, 3), (2, 2), (3, 1), (4, 1), (1, 4), (2, 3)):
            for seed in scattered(20, 1000, shape[0] + 9 * shape[1]):
                name = NAMES[seed % 14]
                for table in (fitting_table(name, shape, seed), scattered_table(shape, seed)):
                    for other in NAMES[seed % 3::3]:
                        given = given_bits(other, shape, table)
                        self.check(other, shape, table, given)
                        both += given not in (0, 2 ** shape[0] - 1)
        self.assertLess(50, both)


class Names(unittest.TestCase):
    def test_no_names(self):
        for shape, table in (((2, 2), known_table((2, 2), "sum")), ((1, 1), (0, 1)), ((3, 2), scattered_table((3, 2)))):
            for value in no_set_names():
                for function in (program_for, part_program):
                    before = copied(value)
                    with self.assertRaises(UnknownName) as caught:
                        function(value, shape, table)
                    self.assertIs(caught.exception.value, value)
                    self.assertTrue(same(value, before))

    def test_ahead_of_other_errors(self):
        product = known_table((3, 2), "product")
        with self.assertRaises(NotComputed) as caught:
            program_for("adding", (3, 2), product)
        self.assertTrue(same(caught.exception.value, 0))
        for value in ("Adding", "adding ", "", None, [], ["adding"], {}, True):
            self.assertRaises(UnknownName, program_for, value, (3, 2), product)

    def test_the_least_place(self):
        # One place after the other fits no affine set; the least one is told, whatever is above it.
        for width in range(2, 9):
            size = 2 ** width
            for place in range(width):
                for above in (0, 2 ** width - 2 ** (place + 1)):
                    table = tuple((2 ** place | above) if number == 1 else 0 for number in range(size))
                    for name in ("affine both", "affine down", "affine up", "affine"):
                        with self.assertRaises(NotComputed) as caught:
                            program_for(name, (width, 1), table)
                        self.assertTrue(same(caught.exception.value, place))


class Arguments(unittest.TestCase):
    def test_by_name_in_another_order(self):
        carry = known_table((2, 2), "sum")
        self.assertEqual(table_of((2, 2), program_for(table=carry, name="adding", shape=(2, 2))), carry)
        part = part_program(shape=(2, 2), table=carry, name="affine up")
        self.assertEqual(table_of((2, 2), part), tuple(result & 1 for result in carry))
        self.assertRaises(NotComputed, program_for, table=carry, shape=(2, 2), name="affine up")
        self.assertRaises(UnknownName, part_program, table=carry, shape=(2, 2), name="none")


if __name__ == "__main__":
    unittest.main()
