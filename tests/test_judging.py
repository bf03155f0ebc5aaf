"""Section 7: judging functions."""

import unittest

from tests.drawn import NAMES, fitting_table, flipped, general_tables, input_bit_tables, tables_for
from tests.reference import SETS, SMALL_SHAPES, Facts, may_count, no_places, no_set_names, table_of_terms
from tests.values import SHAPES, WIDEST_SHAPES, copied, same, scattered_table
from wordreach.errors import NoPlace, UnknownName
from wordreach.judging import bit_fits, computes, given_bits, least_sets, sets_for
from wordreach.tables import known_table


def wanted_bits(facts, name):
    """Return the word of the places that fit, from the facts of each place."""
    return sum(2 ** place for place, fact in enumerate(facts) if fact.fits(name))


class Judged(unittest.TestCase):
    def judge(self, shape, table, names):
        """Check all judging functions for a table and some sets."""
        facts = [Facts(shape, table, place) for place in range(shape[0])]
        for name in names:
            bits = wanted_bits(facts, name)
            for place in range(shape[0]):
                self.assertIs(bit_fits(name, shape, table, place), bits // 2 ** place % 2 == 1, (name, shape, place))
            self.assertTrue(same(given_bits(name, shape, table), bits), (name, shape))
            self.assertIs(computes(name, shape, table), bits == 2 ** shape[0] - 1, (name, shape))


class Sentences(Judged):
    def test_all_tables_of_few_bits(self):
        for shape in ((1, 1), (1, 2), (2, 1)):
            width, inputs = shape
            size = 2 ** (width * inputs)
            for code in range(2 ** (width * size)):
                self.judge(shape, tuple(code // 2 ** (width * n) % 2 ** width for n in range(size)), NAMES)

    def test_all_bits_of_three_inputs(self):
        for code in range(256):
            self.judge((1, 3), tuple(code // 2 ** n % 2 for n in range(8)), NAMES)

    def test_general_tables(self):
        for shape in SMALL_SHAPES:
            for table in general_tables(shape):
                self.judge(shape, table, NAMES)

    def test_tables_that_fit_but_for_a_part(self):
        for shape in SMALL_SHAPES:
            for name in NAMES:
                for table in tables_for(name, shape):
                    self.judge(shape, table, (name,))

    def test_eight_input_bits(self):
        for shape in WIDEST_SHAPES:
            for table in (known_table(shape, "sum"), known_table(shape, "product"), scattered_table(shape)):
                self.judge(shape, table, NAMES)
            for k, name in enumerate(NAMES):
                table = fitting_table(name, shape, 3)
                self.assertIs(computes(name, shape, table), True)
                self.assertEqual(given_bits(name, shape, table), 2 ** shape[0] - 1)
                place = k % shape[0]
                self.judge(shape, flipped(table, 100 + k, place), (name,))


class Terms(unittest.TestCase):
    def check(self, shape, place, term):
        """Check a table with a single term at a place, and constants at all other places."""
        width = shape[0]
        rows = [(term,) if other == place else (0,) * (other % 2) for other in range(width)]
        table = table_of_terms(shape, rows)
        places = [bit % width for bit in range(width * shape[1]) if term // 2 ** bit % 2]
        weight = sum(2 ** p for p in places)
        light = sum(2 ** p for p in places if p > 0)
        wanted = {
            "adding": weight <= 2 ** place,
            "multiplying": light <= 2 ** place if place > 0 else light == 0,
            "affine both": len(places) <= 1,
            "affine": len(places) == 0 or places == [place],
            "affine up": len(places) == 0 or len(places) == 1 and places[0] <= place,
            "affine down": len(places) == 0 or len(places) == 1 and places[0] >= place,
        }
        for name, fits in wanted.items():
            self.assertIs(bit_fits(name, shape, table, place), fits, (name, shape, place, term))
            self.assertEqual(given_bits(name, shape, table), 2 ** width - 1 - (0 if fits else 2 ** place))
            self.assertIs(computes(name, shape, table), fits)
        return (weight - 2 ** place, light - 2 ** place)

    def test_each_term_of_small_shapes(self):
        for shape in SMALL_SHAPES:
            for place in range(shape[0]):
                for term in range(2 ** (shape[0] * shape[1])):
                    self.check(shape, place, term)

    def test_at_the_bounds(self):
        # Weights of 2 ** place, one more and one less; light weights are even.
        met = set()
        light_met = set()
        for shape in WIDEST_SHAPES:
            width = shape[0]
            for place in range(width):
                for term in range(256):
                    places = [bit % width for bit in range(8) if term // 2 ** bit % 2]
                    weight = sum(2 ** p for p in places)
                    if abs(weight - 2 ** place) > 1 and term % 31 != place:
                        continue
                    heavy, light = self.check(shape, place, term)
                    met.add((place, heavy))
                    light_met.add((place, light))
        for place in range(8):
            for heavy in (-1, 0, 1):
                self.assertTrue((place, heavy) in met, (place, heavy))
        for place in (1, 2, 3):
            self.assertTrue({(place, 0), (place, -2)} <= light_met, place)

    def test_the_lowest_place(self):
        # Four words of two bits: input bits 0, 2, 4, 6 at place 0 and 1, 3, 5, 7 at place 1.
        for term, adding, multiplying in (
            (0, True, True), (1, True, True), (64, True, True), (5, False, True), (85, False, True),
            (2, False, False), (128, False, False), (3, False, False), (87, False, False), (10, False, False),
        ):
            table = table_of_terms((2, 4), ((term,), ()))
            self.assertIs(bit_fits("adding", (2, 4), table, 0), adding, term)
            self.assertIs(bit_fits("multiplying", (2, 4), table, 0), multiplying, term)
        for term, adding, multiplying in (
            (0, True, True), (2, True, True), (5, True, True), (21, False, True), (85, False, True),
            (3, False, True), (87, False, True), (10, False, False), (130, False, False),
        ):
            table = table_of_terms((2, 4), ((), (term,)))
            self.assertIs(bit_fits("adding", (2, 4), table, 1), adding, term)
            self.assertIs(bit_fits("multiplying", (2, 4), table, 1), multiplying, term)


class BitsThatMayCount(unittest.TestCase):
    def test_single_input_bits(self):
        # A result bit that is an input bit fits every set for which this bit may count.
        for shape in SHAPES:
            width = shape[0]
            for bit, place, table in input_bit_tables(shape):
                for name in NAMES:
                    fits = may_count(name, place, bit % width)
                    self.assertIs(bit_fits(name, shape, table, place), fits, (name, shape, bit, place))
                    self.assertEqual(given_bits(name, shape, table), 2 ** width - 1 - (0 if fits else 2 ** place))

    def test_all_and_none(self):
        for shape in SHAPES:
            width, inputs = shape
            size = 2 ** (width * inputs)
            for name in NAMES:
                for word in (0, 1, 2 ** width - 1):
                    self.assertIs(computes(name, shape, (word,) * size), True)
                    self.assertEqual(given_bits(name, shape, (word,) * size), 2 ** width - 1)
                self.assertIs(computes(name, shape, known_table(shape, "first")), True)
                self.assertIs(computes(name, shape, known_table(shape, "xor")), name[:8] != "monotone" or inputs == 1)
                self.assertIs(computes(name, shape, known_table(shape, "and")), (
                    name[:3] in ("any", "mon") or inputs == 1 or (name, width) == ("multiplying", 1)
                ))
            # Each result bit is 1 for a single input number: it depends on all bits, and rises and falls.
            lone = tuple(2 ** width - 1 if number == 0 else 0 for number in range(size))
            for name in NAMES:
                if name == "any both":
                    self.assertEqual(given_bits(name, shape, lone), 2 ** width - 1)
                elif name.startswith("monotone") or name.startswith("affine") and width * inputs > 1:
                    self.assertEqual(given_bits(name, shape, lone), 0)
                elif name == "any up":
                    self.assertEqual(given_bits(name, shape, lone), 2 ** (width - 1))
                elif name == "any down":
                    self.assertEqual(given_bits(name, shape, lone), 1)
                elif name == "any":
                    self.assertEqual(given_bits(name, shape, lone), 1 if width == 1 else 0)

    def test_falls_over_one_bit(self):
        for shape in SHAPES:
            width, inputs = shape
            full = 2 ** (width * inputs) - 1
            for bit in range(width * inputs):
                # 1 at one number alone, which lacks one bit; 0 at one number alone, which has one bit.
                lacking = tuple(1 if number == full - 2 ** bit else 0 for number in range(full + 1))
                having = tuple(0 if number == 2 ** bit else 1 for number in range(full + 1))
                for table in (lacking, having):
                    self.assertIs(bit_fits("monotone both", shape, table, 0), False, (shape, bit))
                    self.assertIs(bit_fits("any both", shape, table, 0), True)

    def test_falls_and_rises(self):
        for row, fits, exchanged in (
            ((1, 1, 1, 1, 1, 1, 1, 0), False, True), ((1, 0, 0, 0, 0, 0, 0, 0), False, True),
            ((0, 1, 0, 1, 0, 1, 1, 0), False, False), ((0, 1, 0, 1, 0, 1, 1, 1), True, False),
            ((0, 0, 0, 1, 0, 1, 1, 1), True, False), ((0, 1, 1, 0, 1, 0, 0, 1), False, False),
        ):
            for name in ("monotone", "monotone up", "monotone down", "monotone both"):
                self.assertIs(bit_fits(name, (1, 3), row, 0), fits)
                self.assertIs(bit_fits(name, (1, 3), tuple(1 - bit for bit in row), 0), exchanged)


class SetsFor(unittest.TestCase):
    def check(self, shape, table):
        """Check the sets for a table against the facts of its result bits."""
        facts = [Facts(shape, table, place) for place in range(shape[0])]
        wanted = tuple(name for name in NAMES if all(fact.fits(name) for fact in facts))
        least = tuple(
            name for name in wanted if not any(SETS[other] < SETS[name] for other in wanted)
        )
        self.assertTrue(same(sets_for(shape, table), wanted), shape)
        self.assertTrue(same(least_sets(shape, table), least), shape)
        return least

    def test_general_tables(self):
        for shape in SHAPES:
            for table in general_tables(shape)[:: 1 if shape[0] * shape[1] < 7 else 5]:
                self.check(shape, table)

    def test_all_tables_of_two_bits(self):
        met = set()
        for code in range(256):
            met.add(self.check((2, 1), tuple(code // 4 ** n % 4 for n in range(4))))
        self.assertLess(10, len(met))
        self.assertTrue(any(len(least) > 1 for least in met))
        for code in range(16):
            self.check((1, 2), tuple(code // 2 ** n % 2 for n in range(4)))

    def test_each_set_is_a_least_one(self):
        met = set()
        for name in NAMES:
            for shape in ((2, 2), (3, 2), (4, 1), (6, 1)):
                for seed in range(1, 8):
                    met.update(self.check(shape, fitting_table(name, shape, seed)))
        self.assertEqual(met, set(NAMES))

    def test_by_hand(self):
        for shape in SHAPES:
            size = 2 ** (shape[0] * shape[1])
            self.assertEqual(sets_for(shape, (0,) * size), NAMES)
            # The least ones are those within which no other set lies at all.
            self.assertEqual(least_sets(shape, (0,) * size), ("affine", "monotone"))
        self.assertEqual(least_sets((2, 2), known_table((2, 2), "xor")), ("affine",))
        self.assertEqual(sets_for((3, 2), known_table((3, 2), "product")), ("any both", "any up", "multiplying"))
        self.assertEqual(least_sets((3, 2), known_table((3, 2), "product")), ("multiplying",))
        self.assertEqual(least_sets((3, 1), known_table((3, 1), "reversed")), ("affine both", "monotone both"))


class WrongArguments(unittest.TestCase):
    def check(self, error, value, function, *arguments):
        """Check that a call raises an error with the very value."""
        before = copied(value)
        with self.subTest(value=value, function=function.__name__):
            with self.assertRaises(error) as caught:
                function(*arguments)
            self.assertIs(caught.exception.value, value)
            self.assertTrue(same(value, before))

    def test_names(self):
        for shape in ((2, 2), (1, 1), (8, 1)):
            table = scattered_table(shape)
            for value in no_set_names():
                self.check(UnknownName, value, bit_fits, value, shape, table, 0)
                self.check(UnknownName, value, given_bits, value, shape, table)
                self.check(UnknownName, value, computes, value, shape, table)

    def test_places(self):
        for shape in SHAPES:
            for table in (scattered_table(shape), known_table(shape, "first")):
                for name in NAMES[::3]:
                    for value in no_places(shape):
                        self.check(NoPlace, value, bit_fits, name, shape, table, value)
        for name in NAMES:
            for value in (True, False, -1, 2, 3, None, "0", [0], (1,)):
                self.check(NoPlace, value, bit_fits, name, (2, 2), known_table((2, 2), "sum"), value)

    def test_edges_of_places(self):
        for shape in SHAPES:
            table = known_table(shape, "first")
            for place in range(-3, shape[0] + 3):
                if 0 <= place < shape[0]:
                    self.assertIs(bit_fits("affine", shape, table, place), True)
                else:
                    self.check(NoPlace, place, bit_fits, "affine", shape, table, place)

    def test_name_and_place_wrong(self):
        table = known_table((2, 2), "sum")
        places = no_places((2, 2))
        for k, value in enumerate(no_set_names()):
            for place in (-1, 2, True, None, "any", [], places[k % len(places)]):
                self.check(UnknownName, value, bit_fits, value, (2, 2), table, place)


class Arguments(unittest.TestCase):
    def test_by_name_in_another_order(self):
        carry = known_table((2, 2), "sum")
        self.assertIs(bit_fits(place=0, table=carry, shape=(2, 2), name="affine"), True)
        self.assertIs(bit_fits(place=1, table=carry, shape=(2, 2), name="affine"), False)
        self.assertEqual(given_bits(table=carry, shape=(2, 2), name="affine"), 1)
        self.assertIs(computes(table=carry, name="adding", shape=(2, 2)), True)
        self.assertEqual(sets_for(table=carry, shape=(2, 2)), ("adding", "any both", "any up", "multiplying"))
        self.assertEqual(least_sets(table=carry, shape=(2, 2)), ("adding",))
        self.assertRaises(UnknownName, bit_fits, place=7, table=carry, shape=(2, 2), name="none")
        self.assertRaises(NoPlace, bit_fits, place=7, table=carry, shape=(2, 2), name="any")

    def test_equal_calls(self):
        product = known_table((3, 2), "product")
        for _ in range(2):
            self.assertIs(computes("multiplying", (3, 2), product), True)
            self.assertEqual(given_bits("adding", (3, 2), product), 0)
            self.assertRaises(NoPlace, bit_fits, "adding", (3, 2), product, 3)
            self.assertEqual(least_sets((3, 2), product), ("multiplying",))


if __name__ == "__main__":
    unittest.main()
