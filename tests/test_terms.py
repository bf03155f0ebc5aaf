"""Section 5: terms."""

import unittest

from tests.values import SHAPES, WIDEST_SHAPES, copied, odd_integers, odd_values, same, scattered, scattered_table
from wordreach.errors import NoPlace
from wordreach.tables import is_table, known_table, result_bit
from wordreach.terms import counting_bits, light_weight, table_from, terms, weight

NAMES = ("first", "reversed", "ones", "sum", "product", "greatest", "least", "and", "or", "xor")


def bits_of(number):
    """Return the bits at which a number has a 1."""
    return [bit for bit in range(number.bit_length()) if number >> bit & 1]


def some_tables(shape):
    """Return tables of a shape: known ones, constants and some that look random."""
    width, inputs = shape
    size = 2 ** (width * inputs)
    constants = [(word,) * size for word in (0, 1, 2 ** width - 1)]
    return [known_table(shape, name) for name in NAMES] + constants + [scattered_table(shape, k) for k in (1, 2)]


def sum_of_terms(row, number):
    """Return the sum modulo 2 of the values of terms for an input number."""
    return sum(1 for term in row if all(number >> bit & 1 for bit in bits_of(term))) % 2


def some_rows(shape):
    """Return rows of terms, one for each place: the edges and some that look random."""
    width, inputs = shape
    size = 2 ** (width * inputs)
    single = [(), (0,), tuple(range(size)), (size - 1,), (0, size - 1), tuple(range(1, size))]
    single += [tuple(sorted(set(scattered(many, size, many)))) for many in (1, 3, size // 2 + 1, size)]
    every = [(row,) * width for row in single]
    return every + [tuple(single[(k + place) % len(single)] for place in range(width)) for k in range(len(single))]


class Terms(unittest.TestCase):
    def test_sum_of_terms(self):
        for shape in SHAPES:
            for table in some_tables(shape):
                for place in range(shape[0]):
                    row = terms(shape, table, place)
                    self.assertIs(type(row), tuple)
                    self.assertEqual(row, tuple(sorted(set(row))))
                    self.assertTrue(all(type(term) is int and 0 <= term < len(table) for term in row))
                    wanted = tuple(sum_of_terms(row, number) for number in range(len(table)))
                    self.assertEqual(result_bit(shape, table, place), wanted, (shape, place))

    def test_all_functions_of_few_bits(self):
        for shape in ((1, 1), (1, 2), (1, 3)):
            size = 2 ** shape[1]
            found = set()
            for code in range(2 ** size):
                table = tuple(code >> number & 1 for number in range(size))
                row = terms(shape, table, 0)
                found.add(row)
                self.assertEqual(tuple(sum_of_terms(row, number) for number in range(size)), table)
                self.assertEqual(table_from(shape, (row,)), table)
            self.assertEqual(len(found), 2 ** size)

    def test_edges(self):
        for shape in SHAPES:
            width, inputs = shape
            size = 2 ** (width * inputs)
            zero = (0,) * size
            full = (2 ** width - 1,) * size
            only_zero = tuple(2 ** width - 1 if number == 0 else 0 for number in range(size))
            only_last = tuple(2 ** width - 1 if number == size - 1 else 0 for number in range(size))
            for place in range(width):
                with self.subTest(shape=shape, place=place):
                    self.assertEqual(terms(shape, zero, place), ())
                    self.assertEqual(terms(shape, full, place), (0,))
                    self.assertEqual(terms(shape, only_zero, place), tuple(range(size)))
                    self.assertEqual(terms(shape, only_last, place), (size - 1,))

    def test_known(self):
        for shape in SHAPES:
            width, inputs = shape
            for place in range(width):
                at_place = [2 ** (k * width + place) for k in range(inputs)]
                self.assertEqual(terms(shape, known_table(shape, "first"), place), (2 ** place,))
                self.assertEqual(terms(shape, known_table(shape, "reversed"), place), (2 ** (width - 1 - place),))
                self.assertEqual(terms(shape, known_table(shape, "xor"), place), tuple(at_place))
                self.assertEqual(terms(shape, known_table(shape, "and"), place), (sum(at_place),))

    def test_places(self):
        for shape in SHAPES:
            table = known_table(shape, "sum")
            for function in (terms, counting_bits):
                for place in [shape[0], shape[0] + 1] + odd_integers() + odd_values():
                    before = copied(place)
                    with self.subTest(shape=shape, place=place):
                        with self.assertRaises(NoPlace) as caught:
                            function(shape, table, place)
                        self.assertIs(caught.exception.value, place)
                        self.assertTrue(same(place, before))


class TablesFromTerms(unittest.TestCase):
    def test_sum_of_terms(self):
        for shape in SHAPES:
            width, inputs = shape
            for rows in some_rows(shape):
                table = table_from(shape, rows)
                self.assertIs(is_table(shape, table), True)
                for place in range(width):
                    wanted = [sum_of_terms(rows[place], number) for number in range(2 ** (width * inputs))]
                    self.assertEqual([result // 2 ** place % 2 for result in table], wanted, (shape, place))

    def test_terms_of_a_table_from_terms(self):
        for shape in SHAPES:
            for rows in some_rows(shape):
                table = table_from(shape, rows)
                self.assertEqual(tuple(terms(shape, table, place) for place in range(shape[0])), rows)

    def test_a_table_from_its_terms(self):
        for shape in SHAPES:
            for table in some_tables(shape):
                rows = tuple(terms(shape, table, place) for place in range(shape[0]))
                self.assertTrue(same(table_from(shape, rows), table))

    def test_edges(self):
        for shape in SHAPES:
            width, inputs = shape
            size = 2 ** (width * inputs)
            full = 2 ** width - 1
            self.assertEqual(table_from(shape, ((),) * width), (0,) * size)
            self.assertEqual(table_from(shape, ((0,),) * width), (full,) * size)
            self.assertEqual(table_from(shape, (tuple(range(size)),) * width), (full,) + (0,) * (size - 1))
            self.assertEqual(table_from(shape, ((size - 1,),) * width), (0,) * (size - 1) + (full,))
            for place in range(width):
                rows = tuple((0,) if other == place else () for other in range(width))
                self.assertEqual(table_from(shape, rows), (2 ** place,) * size)

    def test_eight_input_bits(self):
        self.assertEqual(WIDEST_SHAPES, ((2, 4), (4, 2), (8, 1)))
        rows = ((0, 255), (1, 128), (), (254,), tuple(range(256)), (170,), (85, 170), (0,))
        for width, inputs in WIDEST_SHAPES:
            table = table_from((width, inputs), rows[:width])
            self.assertEqual(len(table), 256)
            for place in range(width):
                self.assertEqual(terms((width, inputs), table, place), rows[place])


class Weights(unittest.TestCase):
    def test_weights(self):
        for shape in SHAPES:
            width, inputs = shape
            for term in range(2 ** (width * inputs)):
                wanted = 0
                light = 0
                for bit in bits_of(term):
                    wanted += 2 ** (bit % width)
                    light += 2 ** (bit % width) if bit % width else 0
                with self.subTest(shape=shape, term=term):
                    self.assertTrue(same(weight(shape, term), wanted))
                    self.assertTrue(same(light_weight(shape, term), light))

    def test_by_hand(self):
        for shape in SHAPES:
            width, inputs = shape
            self.assertEqual((weight(shape, 0), light_weight(shape, 0)), (0, 0))
            full = 2 ** (width * inputs) - 1
            self.assertEqual(weight(shape, full), inputs * (2 ** width - 1))
            self.assertEqual(light_weight(shape, full), inputs * (2 ** width - 2))
        self.assertEqual([weight((1, 4), term) for term in (1, 2, 4, 8, 15)], [1, 1, 1, 1, 4])
        self.assertEqual([light_weight((1, 4), term) for term in (1, 2, 4, 8, 15)], [0, 0, 0, 0, 0])
        self.assertEqual([weight((8, 1), term) for term in (1, 2, 128, 201)], [1, 2, 128, 201])
        self.assertEqual([light_weight((8, 1), term) for term in (1, 2, 128, 201)], [0, 2, 128, 200])
        self.assertEqual((weight((3, 2), 9), weight((3, 2), 11), light_weight((3, 2), 11)), (2, 4, 2))


class CountingBits(unittest.TestCase):
    def wanted(self, shape, table, place):
        """Return the bits that count, found from pairs of input numbers that differ in one bit."""
        found = 0
        for one in range(len(table)):
            for bit in range(shape[0] * shape[1]):
                other = one + 2 ** bit
                if not one >> bit & 1 and (table[one] ^ table[other]) >> place & 1:
                    found |= 2 ** bit
        return found

    def test_definition(self):
        for shape in SHAPES:
            for table in some_tables(shape):
                for place in range(shape[0]):
                    with self.subTest(shape=shape, place=place):
                        found = counting_bits(shape, table, place)
                        self.assertTrue(same(found, self.wanted(shape, table, place)))

    def test_constants(self):
        for shape in SHAPES:
            width, inputs = shape
            for word in range(2 ** width):
                table = (word,) * 2 ** (width * inputs)
                for place in range(width):
                    self.assertTrue(same(counting_bits(shape, table, place), 0))

    def test_ignored_bits(self):
        # Each result bit is taken from a table that looks at the bits of a mask only.
        for shape in SHAPES:
            width, inputs = shape
            size = 2 ** (width * inputs)
            for mask in scattered(12, size, 7) + [0, 1, size // 2, size - 1]:
                table = tuple(2 ** width - 1 if number & mask == mask else 0 for number in range(size))
                odd = tuple(2 ** width - 1 if bin(number & mask).count("1") % 2 else 0 for number in range(size))
                for place in range(width):
                    with self.subTest(shape=shape, mask=mask, place=place):
                        self.assertEqual(counting_bits(shape, table, place), mask)
                        self.assertEqual(counting_bits(shape, odd, place), mask)

    def test_each_place_for_itself(self):
        table = table_from((2, 2), ((), (5,)))
        self.assertEqual((counting_bits((2, 2), table, 0), counting_bits((2, 2), table, 1)), (0, 5))
        carry = known_table((2, 2), "sum")
        self.assertEqual((counting_bits((2, 2), carry, 0), counting_bits((2, 2), carry, 1)), (5, 15))
        first = known_table((4, 2), "first")
        self.assertEqual([counting_bits((4, 2), first, place) for place in range(4)], [1, 2, 4, 8])

    def test_a_bit_that_counts_once(self):
        # One result alone is unlike: every bit counts, each for one pair of input numbers.
        for shape in SHAPES:
            width, inputs = shape
            size = 2 ** (width * inputs)
            for at in (0, size // 3, size - 1):
                table = tuple(2 ** (width - 1) if number == at else 0 for number in range(size))
                self.assertEqual(counting_bits(shape, table, width - 1), size - 1)


class Arguments(unittest.TestCase):
    def test_by_name_in_another_order(self):
        carry = known_table((2, 2), "sum")
        self.assertEqual(terms(place=1, table=carry, shape=(2, 2)), (2, 5, 8))
        self.assertEqual(table_from(rows=((1,), (0, 3)), shape=(2, 1)), (2, 3, 2, 1))
        self.assertEqual(weight(term=9, shape=(2, 2)), 3)
        self.assertEqual(light_weight(term=9, shape=(2, 2)), 2)
        self.assertEqual(counting_bits(place=0, table=carry, shape=(2, 2)), 5)
        self.assertRaises(NoPlace, terms, place=2, table=carry, shape=(2, 2))
        self.assertRaises(NoPlace, counting_bits, place=-1, table=carry, shape=(2, 2))

    def test_equal_calls(self):
        product = known_table((3, 2), "product")
        for _ in range(2):
            self.assertEqual(terms((3, 2), product, 0), (9,))
            self.assertEqual(counting_bits((3, 2), product, 0), 9)
            self.assertEqual(table_from((2, 1), ((), (1,))), (0, 2, 0, 2))
            self.assertEqual((weight((3, 2), 11), light_weight((3, 2), 11)), (4, 2))


if __name__ == "__main__":
    unittest.main()
