"""Section 8: evidence."""

import itertools
import unittest

from tests.drawn import NAMES, fitting_table, flipped, general_tables, input_bit_tables, tables_for
from tests.reference import SETS, Facts, is_evidence, may_count, no_set_names, table_of_terms
from tests.values import (
    SHAPES, WIDEST_SHAPES, copied, nested, odd_integers, odd_values, same, scattered, scattered_table,
)
from wordreach.errors import UnknownName
from wordreach.evidence import evidence_against, shows_against
from wordreach.tables import known_table

LENGTHS = {"apart": 4, "falls": 4, "four": 5, "heavy": 3}


def drawn_evidence(shape, many, seed):
    """Return many values of the four forms of evidence that look random."""
    size = 2 ** (shape[0] * shape[1])
    numbers = scattered(6 * many, 2 ** 30, seed)
    values = []
    for k in range(many):
        kind = sorted(LENGTHS)[numbers[6 * k] % 4]
        place = numbers[6 * k + 1] % shape[0]
        values.append((kind, place) + tuple(n % size for n in numbers[6 * k + 2:6 * k + LENGTHS[kind]]))
    return values


def bent(value, shape):
    """Return values that are unlike evidence in one part, or in its form."""
    width, inputs = shape
    size = 2 ** (width * inputs)
    others = odd_values() + odd_integers()
    found = [value + (0,), value + (None,), value[:-1], value[:2], value[:1], value[1:], (), list(value), value[::-1]]
    found += [(value,), [value], (list(value),), {value: value}, value + value, str(value), value[0]]
    found += [(value[0], value[1:]), (value[:1], *value[1:])]
    for at, part in enumerate(value):
        replaced = others + [[part], (part,), {part: part}, nested(list, 59, part), nested(tuple, 59, part)]
        if at > 0:
            replaced += [str(part), part == 1, part != 0, part + 1, part - 1, part ^ 1, -part, part + size]
            replaced += [size, width, 0, 1]
        else:
            replaced += [part.upper(), part + " ", " " + part, part[:-1], part.encode()] + sorted(LENGTHS)
        found += [value[:at] + (other,) + value[at + 1:] for other in replaced]
    return found


class Evidence(unittest.TestCase):
    def check(self, name, shape, table):
        """Check the evidence against a set: there is some exactly if a result bit does not fit. Return it."""
        found = evidence_against(name, shape, table)
        fits = all(Facts(shape, table, place).fits(name) for place in range(shape[0]))
        self.assertIs(found is None, fits, (name, shape))
        if found is not None:
            self.assertIs(type(found), tuple)
            self.assertTrue(is_evidence(name, shape, table, found), (name, shape, found))
            self.assertIs(shows_against(name, shape, table, found), True, (name, shape, found))
        self.assertTrue(same(evidence_against(name, shape, table), found))
        return found

    def test_all_tables_of_few_bits(self):
        for shape in ((1, 1), (1, 2), (2, 1)):
            width, inputs = shape
            size = 2 ** (width * inputs)
            for code in range(2 ** (width * size)):
                table = tuple(code // 2 ** (width * n) % 2 ** width for n in range(size))
                for name in NAMES:
                    self.check(name, shape, table)

    def test_all_bits_of_three_inputs(self):
        for code in range(256):
            for name in NAMES:
                self.check(name, (1, 3), tuple(code // 2 ** n % 2 for n in range(8)))

    def test_tables(self):
        kinds = set()
        for shape in SHAPES:
            few = shape[0] * shape[1] <= 6
            for name in NAMES:
                for table in tables_for(name, shape)[:: 1 if few else 4] + general_tables(shape)[:: 1 if few else 9]:
                    found = self.check(name, shape, table)
                    kinds.add(None if found is None else found[0])
        self.assertEqual(kinds, {None, *LENGTHS})

    def test_one_misfit_among_fitting_bits(self):
        for shape in WIDEST_SHAPES + ((3, 2), (1, 4), (5, 1)):
            size = 2 ** (shape[0] * shape[1])
            for k, name in enumerate(NAMES):
                table = fitting_table(name, shape, 7)
                self.assertIsNone(evidence_against(name, shape, table))
                place = k % shape[0]
                found = self.check(name, shape, flipped(table, size // 3 + k % 5, place))
                if found is not None:
                    self.assertEqual(found[1], place)

    def test_none_where_every_function_fits(self):
        for shape in SHAPES:
            for table in general_tables(shape):
                self.assertIsNone(evidence_against("any both", shape, table))
                if shape[0] == 1:
                    for name in ("any", "any up", "any down", "multiplying"):
                        self.assertIsNone(evidence_against(name, shape, table))

    def test_single_terms(self):
        # Each term alone, at each place: evidence exactly if it does not fit.
        for shape in ((2, 2), (1, 4), (4, 1), (2, 3), (3, 2)):
            for term in range(2 ** (shape[0] * shape[1])):
                for place in range(shape[0]):
                    table = table_of_terms(shape, [(term,) if other == place else () for other in range(shape[0])])
                    for name in ("affine both", "adding", "multiplying", "monotone up", "affine down"):
                        self.check(name, shape, table)


class Shows(unittest.TestCase):
    def check(self, name, shape, table, value):
        """Check whether a value is found to be evidence exactly if it is. Return whether it is."""
        wanted = is_evidence(name, shape, table, value)
        self.assertIs(shows_against(name, shape, table, value), wanted, (name, shape, value))
        return wanted

    def test_all_values_of_the_forms(self):
        for shape in ((1, 1), (1, 2), (2, 1)):
            size = 2 ** (shape[0] * shape[1])
            values = [
                (kind, place, *numbers)
                for kind, length in LENGTHS.items() for place in range(-1, shape[0] + 1)
                for numbers in itertools.product(range(-1, size + 1), repeat=length - 2)
            ]
            tables = [known_table(shape, name) for name in ("reversed", "sum", "least")]
            tables += [scattered_table(shape, seed) for seed in (1, 2, 3)]
            shown = {}
            for table in tables:
                for name in NAMES:
                    for value in values:
                        if self.check(name, shape, table, value):
                            shown.setdefault(value[0], set()).add(name)
            if shape == (2, 1):
                self.assertEqual(shown["apart"], set(NAMES) - {name for name in NAMES if "both" in name})
                self.assertEqual(shown["falls"], {name for name in NAMES if "monotone" in name})
                self.assertEqual(shown["heavy"], {"adding", "multiplying"})
            if shape == (1, 2):
                self.assertEqual(shown["four"], {name for name in NAMES if "affine" in name})

    def test_drawn_values(self):
        shown = {}
        for shape in ((2, 2), (3, 2), (1, 4), (4, 1), (2, 3)):
            values = drawn_evidence(shape, 120, shape[0])
            for k, name in enumerate(NAMES):
                for table in tables_for(name, shape)[2:5] + [scattered_table(shape, k + 1)]:
                    for value in values:
                        if self.check(name, shape, table, value):
                            shown.setdefault(name, set()).add(value[0])
        for name in NAMES:
            wanted = set() if name == "any both" else {"apart"}
            wanted |= {"falls"} if "monotone" in name else {"four"} if "affine" in name else set()
            wanted |= {"heavy"} if name in ("adding", "multiplying") else set()
            self.assertEqual(shown.get(name, set()), wanted - ({"apart"} if "both" in name else set()), name)

    def test_eight_input_bits(self):
        for shape in WIDEST_SHAPES:
            table = scattered_table(shape, 5)
            for name in NAMES:
                for value in drawn_evidence(shape, 25, 3):
                    self.check(name, shape, table, value)

    def test_equal_at_the_bits_that_may_count(self):
        # The numbers differ in one input bit alone, on which the result bit depends.
        for shape in SHAPES:
            for bit, place, table in input_bit_tables(shape):
                one = 2 ** bit
                for name in NAMES:
                    wanted = not may_count(name, place, bit % shape[0])
                    for first, second in ((0, one), (one, 0)):
                        value = ("apart", place, first, second)
                        self.assertIs(shows_against(name, shape, table, value), wanted, (name, shape, value))
                    for same_number in (0, one):
                        value = ("apart", place, same_number, same_number)
                        self.assertIs(shows_against(name, shape, table, value), False)

    def test_a_weight_at_the_bound(self):
        # Single terms at each place: heavy from 2 ** place + 1 on, and only if the result bit has them.
        shape = (4, 2)
        for place in range(4):
            for term in range(256):
                places = [bit % 4 for bit in range(8) if term // 2 ** bit % 2]
                table = tuple(2 ** place if n | term == n else 0 for n in range(256))
                weight = sum(2 ** p for p in places)
                light = sum(2 ** p for p in places if p > 0)
                heavy = ("heavy", place, term)
                self.assertIs(shows_against("adding", shape, table, heavy), weight > 2 ** place)
                self.assertIs(
                    shows_against("multiplying", shape, table, heavy), light > (2 ** place if place > 0 else 0)
                )
                # A number within the term or around it is no term of this result bit.
                for other in (term - 1, term + 1, term ^ 128, term & 127):
                    if other != term and 0 <= other < 256:
                        self.assertIs(shows_against("adding", shape, table, ("heavy", place, other)), False)
                self.assertIs(shows_against("adding", shape, table, ("heavy", (place + 1) % 4, term)), False)


class Bent(unittest.TestCase):
    def test_evidence_bent_in_one_part(self):
        accepted = 0
        for shape in ((1, 1), (2, 2), (1, 3), (3, 1)):
            for name in NAMES:
                for table in tables_for(name, shape)[2:7] + [known_table(shape, "product"), scattered_table(shape)]:
                    value = evidence_against(name, shape, table)
                    if value is None:
                        continue
                    for other in bent(value, shape):
                        before = copied(other)
                        wanted = is_evidence(name, shape, table, other)
                        self.assertIs(shows_against(name, shape, table, other), wanted, (name, shape, other))
                        self.assertTrue(same(other, before))
                        accepted += wanted
        self.assertLess(50, accepted)

    def test_a_kind_of_another_set(self):
        product = known_table((1, 2), "product")
        for name in NAMES:
            found = shows_against(name, (1, 2), product, ("four", 0, 0, 1, 2))
            self.assertIs(found, name.startswith("affine"), name)
            found = shows_against(name, (1, 2), product, ("heavy", 0, 3))
            self.assertIs(found, name == "adding", name)
            found = shows_against(name, (1, 2), (1, 0, 1, 0), ("falls", 0, 2, 3))
            self.assertIs(found, name.startswith("monotone"), name)
            found = shows_against(name, (2, 1), (0, 2, 0, 2), ("apart", 1, 0, 1))
            self.assertIs(found, name in ("any", "monotone", "affine") or name.endswith("down"), name)

    def test_booleans_and_lists_inside(self):
        carry = known_table((2, 2), "sum")
        for name, value in (
            ("monotone up", ("falls", 1, 2, 10)), ("affine", ("apart", 1, 0, 5)), ("affine up", ("four", 1, 0, 1, 4)),
            ("adding", ("heavy", 1, 15)), ("monotone", ("apart", 1, 1, 0)),
        ):
            table = tuple(3 if number == 15 else 0 for number in range(16)) if name == "adding" else carry
            if name == "monotone":
                table = (0, 2) + (0,) * 14
            self.assertIs(shows_against(name, (2, 2), table, value), True, value)
            self.assertIs(shows_against(name, (2, 2), table, list(value)), False)
            for at in range(1, len(value)):
                for other in (True, False, [value[at]], (value[at],), str(value[at]), None):
                    self.assertIs(shows_against(name, (2, 2), table, value[:at] + (other,) + value[at + 1:]), False)

    def test_values_of_every_kind(self):
        for shape in ((1, 1), (2, 2), (4, 2)):
            table = scattered_table(shape)
            for name in NAMES:
                cut = ["apart", "heavy", ("apart",), ("heavy", 0), ("four", 0), ("falls", 0, 0)]
                for value in odd_values() + odd_integers() + [0, 1] + cut:
                    before = copied(value)
                    self.assertIs(shows_against(name, shape, table, value), False)
                    self.assertTrue(same(value, before))

    def test_numbers_out_of_range(self):
        for shape in SHAPES:
            size = 2 ** (shape[0] * shape[1])
            table = scattered_table(shape)
            for name in ("any", "affine", "monotone", "adding", "multiplying", "any both"):
                for wrong in (size, size + 1, -1, -size, 10 ** 40, -10 ** 40):
                    for value in (
                        ("apart", 0, 0, wrong), ("apart", 0, wrong, 0), ("falls", 0, 0, wrong), ("falls", 0, wrong, 0),
                        ("four", 0, 0, 0, wrong), ("four", 0, 0, wrong, 0), ("four", 0, wrong, 0, 0),
                        ("heavy", 0, wrong),
                    ):
                        self.assertIs(shows_against(name, shape, table, value), False)
                for place in (shape[0], -1, -shape[0], 10 ** 40):
                    for value in (
                        ("apart", place, 0, size - 1), ("falls", place, 0, size - 1), ("four", place, 0, 1, size - 1),
                        ("heavy", place, size - 1),
                    ):
                        self.assertIs(shows_against(name, shape, table, value), False)


class Arguments(unittest.TestCase):
    def test_names(self):
        table = known_table((2, 2), "sum")
        for value in no_set_names():
            for function, arguments in (
                (evidence_against, ()), (shows_against, (("apart", 0, 0, 1),)), (shows_against, (None,)),
                (shows_against, ([],)),
            ):
                before = copied(value)
                with self.subTest(value=value, function=function.__name__):
                    with self.assertRaises(UnknownName) as caught:
                        function(value, (2, 2), table, *arguments)
                    self.assertIs(caught.exception.value, value)
                    self.assertTrue(same(value, before))

    def test_by_name_in_another_order(self):
        carry = known_table((2, 2), "sum")
        self.assertIsNone(evidence_against(table=carry, name="adding", shape=(2, 2)))
        self.assertIs(shows_against(value=("falls", 1, 2, 10), table=carry, shape=(2, 2), name="monotone up"), True)
        self.assertIs(shows_against(value=("heavy", 1, 5), table=carry, shape=(2, 2), name="adding"), False)
        self.assertRaises(UnknownName, evidence_against, table=carry, shape=(2, 2), name="none")
        self.assertRaises(UnknownName, shows_against, value=None, table=carry, shape=(2, 2), name="none")

    def test_equal_calls(self):
        product = known_table((3, 2), "product")
        for name in SETS:
            first = evidence_against(name, (3, 2), product)
            for _ in range(2):
                self.assertTrue(same(evidence_against(name, (3, 2), product), first))


if __name__ == "__main__":
    unittest.main()
