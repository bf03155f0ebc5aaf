"""Section 13: counting; and guarantee (c)."""

import unittest

from tests.drawn import NAMES
from tests.reference import Facts, may_count, no_places, no_set_names
from tests.values import SHAPES, copied, odd_integers, same
from wordreach.counting import count_functions, count_monotone, count_terms
from wordreach.errors import NoPlace, TooMany, UnknownName
from wordreach.judging import computes

# How many functions of 0, 1, .. bits never fall: well known, and counted below.
DEDEKIND = (2, 3, 6, 20, 168, 7581)


def rows_that_never_fall(bits):
    """Return all functions of so many bits that never fall, as numbers with a bit for each input number."""
    rows = [0, 1]
    for bit in range(bits):
        rows = [low | high << 2 ** bit for low in rows for high in rows if low & ~high == 0]
    return rows


def counting_many(name, shape, place):
    """Return how many input bits may count for a set and a place."""
    return sum(1 for bit in range(shape[0] * shape[1]) if may_count(name, place, bit % shape[0]))


def fitting_many(name, shape, place):
    """Return how many terms fit a set at a place, all gone through."""
    size = 2 ** (shape[0] * shape[1])
    facts = Facts(shape, (0,) * size, place)
    return sum(1 for term in range(size) if facts.term_fits(name, term))


class CountTerms(unittest.TestCase):
    def test_all_shapes_and_places(self):
        for shape in SHAPES:
            for place in range(shape[0]):
                for name in ("adding", "multiplying"):
                    wanted = fitting_many(name, shape, place)
                    self.assertTrue(same(count_terms(name, shape, place), wanted), (name, shape, place))

    def test_by_hand(self):
        self.assertEqual([count_terms("adding", (8, 1), place) for place in range(8)], [2, 3, 5, 9, 17, 33, 65, 129])
        self.assertEqual([count_terms("multiplying", (8, 1), place) for place in (0, 1, 2, 7)], [2, 4, 6, 130])
        for inputs in range(1, 5):
            # At place 0 alone: single bits and 0 for adding, all products for multiplying.
            self.assertEqual(count_terms("adding", (1, inputs), 0), inputs + 1)
            self.assertEqual(count_terms("multiplying", (1, inputs), 0), 2 ** inputs)

    def test_single_functions(self):
        # A term is counted exactly if the set computes the function that has it alone.
        for shape in ((1, 3), (2, 2), (3, 1), (4, 1), (2, 1)):
            size = 2 ** (shape[0] * shape[1])
            for place in range(shape[0]):
                tables = [tuple(2 ** place if n | t == n else 0 for n in range(size)) for t in range(size)]
                for name in ("adding", "multiplying"):
                    wanted = sum(1 for table in tables if computes(name, shape, table))
                    self.assertEqual(count_terms(name, shape, place), wanted)

    def refused(self, error, value, *arguments):
        """Check that a call is refused with the very value."""
        before = copied(value)
        with self.assertRaises(error) as caught:
            count_terms(*arguments)
        self.assertIs(caught.exception.value, value)
        self.assertTrue(same(value, before))

    def test_names(self):
        others = [name for name in NAMES if name not in ("adding", "multiplying")]
        for shape in ((1, 1), (2, 2), (8, 1)):
            for name in others + no_set_names() + ["Adding", "add", "mul", ["multiplying"]]:
                self.refused(UnknownName, name, name, shape, 0)

    def test_places(self):
        for shape in SHAPES:
            for place in no_places(shape):
                self.refused(NoPlace, place, "adding", shape, place)
                self.refused(NoPlace, place, "multiplying", shape, place)

    def test_both_wrong(self):
        for name in no_set_names() + ["any", "affine up"]:
            for place in (-1, 2, True, None, [], "0"):
                self.refused(UnknownName, name, name, (2, 2), place)


class CountMonotone(unittest.TestCase):
    def test_all_functions_gone_through(self):
        for bits in range(4):
            size = 2 ** bits
            tables = [tuple(code // 2 ** n % 2 for n in range(size)) for code in range(2 ** size)]
            # A function of no bits is one of one bit that takes no notice of it.
            rows = [table * 2 if bits == 0 else table for table in tables]
            wanted = sum(1 for row in rows if not Facts((1, max(bits, 1)), row, 0).falls)
            self.assertTrue(same(count_monotone(bits), wanted), bits)

    def test_four_bits(self):
        # A function falls if it falls over one bit: all rows of sixteen, by their bits.
        steps = [(number, number | 2 ** bit) for number in range(16) for bit in range(4) if not number >> bit & 1]
        wanted = sum(1 for row in range(2 ** 16) if all(row >> a & 1 <= row >> b & 1 for a, b in steps))
        self.assertEqual(count_monotone(4), wanted)

    def test_up_to_five_bits(self):
        self.assertEqual([count_monotone(bits) for bits in range(6)], list(DEDEKIND))
        for bits in range(5):
            rows = rows_that_never_fall(bits)
            self.assertEqual(len(rows), count_monotone(bits))
            # A function of one bit more is a lower and a higher half, which has all that the lower one has.
            pairs = sum(1 for low in rows for high in rows if low & ~high == 0)
            self.assertTrue(same(count_monotone(bits + 1), pairs))

    def test_somewhat_beyond(self):
        # Between the halves of the halves, two stand beside each other: from functions of four bits to those of six.
        rows = rows_that_never_fall(4)
        below = {row: sum(1 for other in rows if other & ~row == 0) for row in rows}
        above = {row: sum(1 for other in rows if row & ~other == 0) for row in rows}
        wanted = sum(below[one & other] * above[one | other] for one in rows for other in rows)
        self.assertEqual(count_monotone(6), wanted)
        for bits in (7, 8, 9):
            self.assertLess(count_monotone(bits - 1), count_monotone(bits))


class CountFunctions(unittest.TestCase):
    def test_all_functions_gone_through(self):
        for shape in ((1, 1), (1, 2), (2, 1), (1, 3)):
            width, inputs = shape
            size = 2 ** (width * inputs)
            counts = dict.fromkeys(NAMES, 0)
            for code in range(2 ** (width * size)):
                table = tuple(code // 2 ** (width * n) % 2 ** width for n in range(size))
                facts = [Facts(shape, table, place) for place in range(width)]
                for name in NAMES:
                    counts[name] += all(fact.fits(name) for fact in facts)
            for name in NAMES:
                self.assertTrue(same(count_functions(name, shape), counts[name]), (name, shape))

    def test_all_result_bits_gone_through(self):
        # The result bits of a function fit or do not fit each for itself.
        for shape in ((2, 1), (3, 1)):
            size = 2 ** (shape[0] * shape[1])
            wanted = dict.fromkeys(NAMES, 1)
            for place in range(shape[0]):
                rows = [tuple((code >> n & 1) << place for n in range(size)) for code in range(2 ** size)]
                facts = [Facts(shape, row, place) for row in rows]
                for name in NAMES:
                    wanted[name] *= sum(1 for fact in facts if fact.fits(name))
            for name in NAMES:
                self.assertEqual(count_functions(name, shape), wanted[name], (name, shape))

    def test_all_shapes(self):
        for shape in SHAPES:
            for name in NAMES:
                many = [counting_many(name, shape, place) for place in range(shape[0])]
                wanted = 1
                for place in range(shape[0]):
                    if name.startswith("any"):
                        wanted *= 2 ** 2 ** many[place]
                    elif name.startswith("affine"):
                        wanted *= 2 ** (many[place] + 1)
                    elif name.startswith("monotone"):
                        wanted *= DEDEKIND[many[place]] if many[place] < 6 else 0
                    else:
                        wanted *= 2 ** fitting_many(name, shape, place)
                if wanted == 0:
                    with self.assertRaises(TooMany) as caught:
                        count_functions(name, shape)
                    first = next(count for count in many if count > 5)
                    self.assertTrue(same(caught.exception.value, first), (name, shape))
                else:
                    self.assertTrue(same(count_functions(name, shape), wanted), (name, shape))

    def test_by_hand(self):
        for name, shape, wanted in (
            ("any", (1, 1), 4), ("any", (1, 4), 2 ** 16), ("any both", (8, 1), 2 ** 2048), ("any up", (2, 1), 2 ** 6),
            ("any down", (2, 1), 2 ** 6), ("monotone", (1, 4), 168), ("monotone", (2, 4), 168 ** 2),
            ("monotone", (8, 1), 3 ** 8), ("monotone down", (2, 1), 18), ("monotone both", (5, 1), 7581 ** 5),
            ("affine", (8, 1), 2 ** 16), ("affine both", (8, 1), 2 ** 72), ("affine up", (3, 1), 2 ** 9),
            ("adding", (1, 1), 4), ("adding", (2, 2), 512), ("multiplying", (1, 2), 16),
        ):
            self.assertEqual(count_functions(name, shape), wanted, (name, shape))

    def test_too_many(self):
        for name, shape, wanted in (
            ("monotone both", (6, 1), 6), ("monotone both", (8, 1), 8), ("monotone both", (2, 3), 6),
            ("monotone both", (2, 4), 8), ("monotone up", (6, 1), 6), ("monotone up", (8, 1), 6),
            ("monotone up", (4, 2), 6), ("monotone up", (2, 3), 6), ("monotone up", (2, 4), 8),
            ("monotone down", (8, 1), 8), ("monotone down", (6, 1), 6), ("monotone down", (4, 2), 8),
            ("monotone down", (2, 3), 6), ("monotone up", (3, 2), 6),
        ):
            with self.assertRaises(TooMany) as caught:
                count_functions(name, shape)
            self.assertTrue(same(caught.exception.value, wanted), (name, shape))
        for name in ("monotone both", "monotone up", "monotone down"):
            count_functions(name, (5, 1))

    def test_names(self):
        for shape in ((1, 1), (2, 2), (8, 1)):
            for value in no_set_names():
                before = copied(value)
                with self.assertRaises(UnknownName) as caught:
                    count_functions(value, shape)
                self.assertIs(caught.exception.value, value)
                self.assertTrue(same(value, before))

    def test_more_instructions_more_functions(self):
        for shape in ((1, 1), (2, 1), (2, 2), (1, 4), (5, 1)):
            for less, more in (
                ("any", "any up"), ("any", "any down"), ("any up", "any both"), ("monotone", "any"), ("affine", "any"),
                ("affine up", "adding"), ("adding", "multiplying"), ("multiplying", "any up"),
                ("affine", "affine both"),
            ):
                self.assertLessEqual(count_functions(less, shape), count_functions(more, shape))


class Arguments(unittest.TestCase):
    def test_by_name_in_another_order(self):
        self.assertEqual(count_terms(place=1, shape=(2, 2), name="adding"), 6)
        self.assertEqual(count_monotone(bits=3), 20)
        self.assertEqual(count_functions(shape=(2, 2), name="adding"), 512)
        self.assertRaises(UnknownName, count_terms, place=9, shape=(2, 2), name="any")
        self.assertRaises(NoPlace, count_terms, place=odd_integers()[0], shape=(2, 2), name="adding")
        self.assertRaises(TooMany, count_functions, shape=(8, 1), name="monotone both")


if __name__ == "__main__":
    unittest.main()
