"""Section 4: shapes and tables."""

import functools
import math
import operator
import unittest

from tests.values import SHAPES, copied, nested, odd_integers, odd_values, same, scattered_table
from wordreach.errors import NoPlace, UnknownName
from wordreach.tables import is_shape, is_table, known_table, number_of, result_bit, words_of


def digits(word, width):
    """Return the bits of a word as text, the greatest place first."""
    return format(word, "b").zfill(width)


# Written apart from the package: from a width and words to the result.
KNOWN = {
    "first": lambda width, words: words[0],
    "reversed": lambda width, words: int(digits(words[0], width)[::-1], 2),
    "ones": lambda width, words: "".join(digits(word, width) for word in words).count("1") % 2 ** width,
    "sum": lambda width, words: sum(words) % 2 ** width,
    "product": lambda width, words: math.prod(words) % 2 ** width,
    "greatest": lambda width, words: sorted(words)[-1],
    "least": lambda width, words: sorted(words)[0],
    "and": lambda width, words: functools.reduce(operator.and_, words),
    "or": lambda width, words: functools.reduce(operator.or_, words),
    "xor": lambda width, words: functools.reduce(operator.xor, words),
}


class Shapes(unittest.TestCase):
    def test_shapes(self):
        self.assertEqual(len(SHAPES), 16)
        for width in range(-2, 12):
            for inputs in range(-2, 12):
                with self.subTest(width=width, inputs=inputs):
                    self.assertIs(is_shape((width, inputs)), (width, inputs) in SHAPES)

    def test_edges(self):
        for value in ((8, 1), (4, 2), (2, 4), (2, 3), (1, 4), (1, 1)):
            self.assertIs(is_shape(value), True, value)
        for value in ((9, 1), (0, 1), (1, 0), (1, 5), (1, 8), (3, 3), (5, 2), (8, 2), (-1, -1), (-2, -3), (4, -1)):
            self.assertIs(is_shape(value), False, value)

    def test_other_values(self):
        for value in odd_values() + odd_integers() + [0, 1, 12]:
            with self.subTest(value=value):
                self.assertIs(is_shape(value), False)

    def test_wrong_kinds_within(self):
        beyond = [value for value in odd_integers() if not 1 <= value <= 8]
        for value in odd_values() + beyond + [0]:
            with self.subTest(value=value):
                self.assertIs(is_shape((value, 1)), False)
                self.assertIs(is_shape((1, value)), False)
                self.assertIs(is_shape((value, value)), False)

    def test_wrong_forms(self):
        for value in (
            [2, 2], [1, 1], (2,), (2, 2, 1), ((2, 2),), (2, (2,)), ([2], 2), (True, 1), (1, True), (True, True),
            (8, True), {2: 2}, {2: 2, 3: 3}, "22", ("2", "2"), (2, None), (2, False), nested(tuple, 60, (2, 2)),
        ):
            with self.subTest(value=value):
                self.assertIs(is_shape(value), False)


class Tables(unittest.TestCase):
    def test_tables(self):
        for shape in SHAPES:
            width, inputs = shape
            size = 2 ** (width * inputs)
            with self.subTest(shape=shape):
                self.assertIs(is_table(shape, scattered_table(shape)), True)
                for word in (0, 2 ** width - 1):
                    self.assertIs(is_table(shape, (word,) * size), True)
                    self.assertIs(is_table(shape, (word,) * (size - 1)), False)
                    self.assertIs(is_table(shape, (word,) * (size + 1)), False)
                    self.assertIs(is_table(shape, [word] * size), False)
                for word in (2 ** width, -1):
                    self.assertIs(is_table(shape, (word,) * size), False)

    def test_one_wrong_result(self):
        for shape in SHAPES:
            table = scattered_table(shape)
            wrong = odd_values() + [-1, 2 ** shape[0], 10 ** 40, -10 ** 40]
            for at in (0, len(table) // 2, len(table) - 1):
                for value in wrong:
                    with self.subTest(shape=shape, at=at, value=value):
                        self.assertIs(is_table(shape, table[:at] + (value,) + table[at + 1:]), False)

    def test_other_values(self):
        for shape in SHAPES:
            for value in odd_values() + odd_integers() + [0, 1]:
                with self.subTest(shape=shape, value=value):
                    self.assertIs(is_table(shape, value), False)

    def test_wrong_forms(self):
        for value in (
            [0, 1], (0,), (0, 1, 0), (0, True), (False, 1), (False, True), (0, 2), (-1, 0), ("0", "1"), "01",
            {0: 0, 1: 1}, ((0, 1),), ((0,), (1,)), (0, [1]), (0, None), ([0, 1],), ((0, 1), (0, 1)),
        ):
            with self.subTest(value=value):
                self.assertIs(is_table((1, 1), value), False)
        self.assertIs(is_table((1, 1), (0, 1)), True)

    def test_a_table_of_another_shape(self):
        self.assertIs(is_table((1, 2), (0, 1, 2, 3)), False)
        self.assertIs(is_table((2, 1), (0, 1, 2, 3)), True)
        self.assertIs(is_table((2, 1), (0, 1)), False)


class Words(unittest.TestCase):
    def test_inverse(self):
        for shape in SHAPES:
            width, inputs = shape
            for number in range(2 ** (width * inputs)):
                words = words_of(shape, number)
                self.assertIs(type(words), tuple)
                self.assertEqual(len(words), inputs)
                self.assertTrue(all(type(word) is int and 0 <= word < 2 ** width for word in words))
                found = number_of(shape, words)
                self.assertIs(type(found), int)
                self.assertEqual(found, number)

    def test_inverse_from_words(self):
        for shape in SHAPES:
            width, inputs = shape
            every = [()]
            for _ in range(inputs):
                every = [words + (word,) for words in every for word in range(2 ** width)]
            self.assertEqual(sorted(number_of(shape, words) for words in every), list(range(len(every))))
            for words in every:
                self.assertEqual(words_of(shape, number_of(shape, words)), words)

    def test_bits(self):
        for shape in SHAPES:
            width, inputs = shape
            for number in range(2 ** (width * inputs)):
                words = words_of(shape, number)
                bits = digits(number, width * inputs)[::-1]
                for k in range(inputs):
                    self.assertEqual(digits(words[k], width)[::-1], bits[k * width:k * width + width])

    def test_single_bits(self):
        for shape in SHAPES:
            width, inputs = shape
            for bit in range(width * inputs):
                words = tuple(2 ** (bit % width) if k == bit // width else 0 for k in range(inputs))
                self.assertEqual(words_of(shape, 2 ** bit), words)
                self.assertEqual(number_of(shape, words), 2 ** bit)


class KnownTables(unittest.TestCase):
    def test_all(self):
        self.assertEqual(len(KNOWN), 10)
        for shape in SHAPES:
            width, inputs = shape
            mask = 2 ** width - 1
            for name, function in KNOWN.items():
                wanted = tuple(
                    function(width, [(number >> (k * width)) & mask for k in range(inputs)])
                    for number in range(2 ** (width * inputs))
                )
                with self.subTest(shape=shape, name=name):
                    self.assertTrue(same(known_table(shape, name), wanted))
                    self.assertIs(is_table(shape, known_table(shape, name)), True)

    def test_by_hand(self):
        self.assertEqual(known_table((3, 1), "reversed"), (0, 4, 2, 6, 1, 5, 3, 7))
        self.assertEqual(known_table((3, 1), "ones"), (0, 1, 1, 2, 1, 2, 2, 3))
        self.assertEqual(known_table((1, 1), "first"), (0, 1))
        self.assertEqual(known_table((1, 2), "first"), (0, 1, 0, 1))
        self.assertEqual(known_table((1, 2), "sum"), (0, 1, 1, 0))
        self.assertEqual(known_table((1, 2), "product"), (0, 0, 0, 1))
        self.assertEqual(known_table((1, 2), "greatest"), (0, 1, 1, 1))
        self.assertEqual(known_table((1, 2), "least"), (0, 0, 0, 1))
        # Modulo 2 ** width: eight ones of eight bits, in words of two bits, are 0.
        self.assertEqual(known_table((2, 4), "ones")[255], 0)
        self.assertEqual(known_table((2, 4), "sum")[255], 0)
        self.assertEqual(known_table((2, 2), "product")[15], 1)
        self.assertEqual(known_table((4, 2), "product")[255], 1)

    def test_unknown(self):
        for shape in SHAPES:
            for name in odd_values() + odd_integers() + [0, 1]:
                before = copied(name)
                with self.subTest(shape=shape, name=name):
                    with self.assertRaises(UnknownName) as caught:
                        known_table(shape, name)
                    self.assertIs(caught.exception.value, name)
                    self.assertTrue(same(name, before))

    def test_almost_known(self):
        for known in KNOWN:
            for name in (
                known.upper(), known.title(), known + " ", " " + known, known + "s", known[:-1], [known], (known,),
                {known: known}, {known: 1}, nested(list, 60, known), nested(tuple, 60, known), nested(dict, 60, known),
            ):
                with self.subTest(name=name):
                    with self.assertRaises(UnknownName) as caught:
                        known_table((2, 2), name)
                    self.assertIs(caught.exception.value, name)


class ResultBits(unittest.TestCase):
    def test_bits(self):
        for shape in SHAPES:
            for table in [known_table(shape, name) for name in KNOWN] + [scattered_table(shape)]:
                for place in range(shape[0]):
                    wanted = tuple(1 if result // 2 ** place % 2 else 0 for result in table)
                    with self.subTest(shape=shape, place=place):
                        self.assertTrue(same(result_bit(shape, table, place), wanted))

    def test_edges(self):
        for shape in SHAPES:
            width = shape[0]
            table = known_table(shape, "first")
            top = tuple(result // 2 ** (width - 1) for result in table)
            self.assertEqual(result_bit(shape, table, 0), tuple(result % 2 for result in table))
            self.assertEqual(result_bit(shape, table, width - 1), top)
            for place in [width, width + 1, width * shape[1] + 1] + odd_integers():
                with self.subTest(shape=shape, place=place):
                    with self.assertRaises(NoPlace) as caught:
                        result_bit(shape, table, place)
                    self.assertIs(caught.exception.value, place)

    def test_other_values(self):
        for shape in SHAPES:
            table = known_table(shape, "sum")
            for place in odd_values() + [(0,), [0], {0: 0}, "0"]:
                before = copied(place)
                with self.subTest(shape=shape, place=place):
                    with self.assertRaises(NoPlace) as caught:
                        result_bit(shape, table, place)
                    self.assertIs(caught.exception.value, place)
                    self.assertTrue(same(place, before))


class Arguments(unittest.TestCase):
    def test_by_name_in_another_order(self):
        carry = known_table((2, 2), "sum")
        self.assertIs(is_shape(value=(2, 2)), True)
        self.assertIs(is_table(value=carry, shape=(2, 2)), True)
        self.assertEqual(words_of(number=9, shape=(2, 2)), (1, 2))
        self.assertEqual(number_of(words=(1, 2), shape=(2, 2)), 9)
        self.assertEqual(known_table(name="sum", shape=(2, 2)), carry)
        self.assertEqual(result_bit(place=1, table=carry, shape=(2, 2)), result_bit((2, 2), carry, 1))
        self.assertRaises(UnknownName, known_table, name="none", shape=(2, 2))
        self.assertRaises(NoPlace, result_bit, place=2, table=carry, shape=(2, 2))

    def test_values_stay_as_they_were(self):
        for value in odd_values():
            before = copied(value)
            is_shape(value)
            is_table((1, 1), value)
            self.assertTrue(same(value, before))

    def test_equal_calls(self):
        for _ in range(2):
            self.assertEqual(known_table((3, 2), "product"), known_table((3, 2), "product"))
            self.assertRaises(UnknownName, known_table, (3, 2), "products")
            self.assertEqual(words_of((4, 2), 201), (9, 12))
            self.assertIs(is_shape((4, 2)), True)


if __name__ == "__main__":
    unittest.main()
