"""Section 12: merging; and guarantee (e)."""

import unittest

from tests.reference import SETS, table_of_terms
from tests.values import SHAPES, WIDEST_SHAPES, copied, nested, odd_integers, odd_values, same, scattered
from wordreach.building import program_for
from wordreach.errors import NotComputed, TooLow
from wordreach.judging import computes
from wordreach.merging import least_place, shows_tree, tree_for
from wordreach.programs import is_of, table_of
from wordreach.terms import weight


def bits_of(number):
    """Return the bits that are 1 in a number."""
    return [bit for bit in range(number.bit_length()) if number >> bit & 1]


def all_terms(shape):
    """Return all terms of a shape but 0."""
    return range(1, 2 ** (shape[0] * shape[1]))


def built_places(shape):
    """Return for each term the least place of a tree, found by raising and joining all trees of a place at once."""
    width, inputs = shape
    least = {}
    here = set()
    for place in range(9):
        raised = {term for term in here}
        joins = {one | other for one in here for other in here if one & other == 0}
        here = raised | joins | {2 ** bit for bit in range(width * inputs) if bit % width == place}
        for term in here:
            least.setdefault(term, place)
    return least


def leaves(shape, value):
    """Return the place and the input bits of a tree, in order; None if it is no tree."""
    if type(value) is int:
        return (value % shape[0], [value]) if 0 <= value < shape[0] * shape[1] else None
    if type(value) is not tuple or value == () or type(value[0]) is not str:
        return None
    if len(value) != {"raise": 2, "join": 3}.get(value[0]):
        return None
    parts = [leaves(shape, part) for part in value[1:]]
    if None in parts or len({place for place, _ in parts}) > 1:
        return None
    return parts[0][0] + 1, [bit for _, bits in parts for bit in bits]


def is_tree(shape, term, place, value):
    """Return whether a value is a tree for a term with a place, as section 12 says."""
    found = leaves(shape, value)
    return found is not None and found[0] == place and sorted(found[1]) == bits_of(term)


def with_part(tree, at, part):
    """Return a tree with another part at a place in it, given by indexes, and the part that was there."""
    if at == ():
        return part, tree
    inner, was = with_part(tree[at[0]], at[1:], part)
    return tree[:at[0]] + (inner,) + tree[at[0] + 1:], was


def parts_within(tree):
    """Return the indexes that lead to each part of a tree, itself included."""
    found = [()]
    if isinstance(tree, tuple):
        for k in range(1, len(tree)):
            found += [(k,) + at for at in parts_within(tree[k])]
    return found


def bent_trees(shape, tree):
    """Return values that are unlike a tree in one part, at any depth."""
    bits = range(-1, shape[0] * shape[1] + 1)
    found = []
    for at in parts_within(tree):
        part = with_part(tree, at, None)[1]
        others = [None, True, False, "0", (), [part], (part,), ("raise", part), ("join", part, part), ("join", part)]
        others += [("raise", part, part), ("join", part, part, part), ("lift", part), (None, part), part + (0,)
                   if isinstance(part, tuple) else (part, part), {0: part}, *bits]
        if isinstance(part, tuple):
            others += [list(part), part[:-1], part[1:], part[::-1], part[1], part[-1], (["join"],) + part[1:]]
            others += [(word,) + part[1:] for word in ("raise", "join", "Join", "", "joins", 0, None, ("join",))]
            others += [part[:1] + part[:0:-1]]
        found += [with_part(tree, at, other)[0] for other in others]
    return found


class LeastPlace(unittest.TestCase):
    def test_all_terms(self):
        for shape in SHAPES:
            found = built_places(shape)
            for term in all_terms(shape):
                place = least_place(shape, term)
                self.assertTrue(same(place, found[term]), (shape, term))
                self.assertLessEqual(weight(shape, term), 2 ** place)
                if place > 0:
                    self.assertLess(2 ** (place - 1), weight(shape, term))

    def test_by_hand(self):
        found = [least_place((8, 1), term) for term in (1, 2, 3, 4, 5, 128, 129, 255)]
        self.assertEqual(found, [0, 1, 2, 2, 3, 7, 8, 8])
        self.assertEqual([least_place((1, 4), term) for term in (1, 8, 3, 7, 15)], [0, 0, 1, 2, 2])
        self.assertEqual([least_place((3, 2), term) for term in (9, 11, 36, 63)], [1, 2, 3, 4])
        # The least place may be the width or more.
        self.assertEqual((least_place((1, 2), 3), least_place((2, 4), 255), least_place((4, 2), 255)), (1, 4, 5))

    def test_single_bits(self):
        for shape in SHAPES:
            for bit in range(shape[0] * shape[1]):
                self.assertEqual(least_place(shape, 2 ** bit), bit % shape[0])


class TreeFor(unittest.TestCase):
    def check(self, shape, term, place):
        """Check that there is a tree for a term with a place."""
        tree = tree_for(shape, term, place)
        self.assertTrue(is_tree(shape, term, place, tree), (shape, term, place, tree))
        self.assertIs(shows_tree(shape, term, place, tree), True)
        self.assertTrue(same(tree, tree_for(shape, term, place)))
        return tree

    def test_all_terms(self):
        for shape in SHAPES:
            for term in all_terms(shape):
                least = least_place(shape, term)
                for place in (least, least + 1, least + 2, 40):
                    self.check(shape, term, place)

    def test_too_low(self):
        for shape in SHAPES:
            for term in all_terms(shape):
                least = least_place(shape, term)
                for place in range(least):
                    with self.assertRaises(TooLow) as caught:
                        tree_for(shape, term, place)
                    self.assertTrue(same(caught.exception.value, least))

    def test_each_place(self):
        for shape in WIDEST_SHAPES:
            for term in (1, 2, 128, 3, 255, 170, 85, 15, 51):
                for place in range(least_place(shape, term), 41):
                    self.check(shape, term, place)

    def test_single_bits(self):
        for shape in SHAPES:
            for bit in range(shape[0] * shape[1]):
                place = bit % shape[0]
                self.assertTrue(same(tree_for(shape, 2 ** bit, place), bit))
                self.assertTrue(same(tree_for(shape, 2 ** bit, place + 1), ("raise", bit)))
                self.assertEqual(tree_for(shape, 2 ** bit, 40), nested_raises(bit, 40 - place))

    def test_all_bits(self):
        for shape in SHAPES:
            width, inputs = shape
            term = 2 ** (width * inputs) - 1
            least = least_place(shape, term)
            self.assertEqual(2 ** least >= inputs * (2 ** width - 1) > 2 ** least // 2, True)
            self.check(shape, term, least)


def nested_raises(tree, many):
    """Return a tree raised many times."""
    for _ in range(many):
        tree = ("raise", tree)
    return tree


class ShowsTree(unittest.TestCase):
    def check(self, shape, term, place, value):
        """Check whether a value is found to be a tree exactly if it is one. Return whether it is."""
        wanted = is_tree(shape, term, place, value)
        self.assertIs(shows_tree(shape, term, place, value), wanted, (shape, term, place, value))
        return wanted

    def test_trees_of_joins_and_raises(self):
        # Drawn trees: at each place, parts of the place before are joined or raised as it comes.
        for shape in SHAPES:
            width, inputs = shape
            for seed in range(40):
                numbers = scattered(200, 2 ** 20, seed + 50 * width)
                place = 0
                trees = []
                used = []
                while place < width or len(trees) > 1 or numbers[place] % 3:
                    own = [bit for bit in range(width * inputs) if bit % width == place and numbers[bit] % 3]
                    pool = trees
                    trees = []
                    while pool:
                        first = pool.pop(numbers[len(used) + len(pool)] % len(pool))
                        joins = pool and numbers[place + len(pool)] % 4
                        trees.append(("join", first, pool.pop()) if joins else ("raise", first))
                    if place < width:
                        trees += own
                        used += own
                    place += 1
                if trees:
                    term = sum(2 ** bit for bit in used)
                    self.assertTrue(self.check(shape, term, place - 1, trees[0]), (shape, trees))
                    for other in {0, place - 2, place, 40} - {place - 1}:
                        self.assertFalse(self.check(shape, term, other, trees[0]))
                    for other in (term ^ 1, term ^ 2 ** (width * inputs - 1)):
                        self.assertFalse(other != 0 and self.check(shape, other, place - 1, trees[0]))

    def test_bent_trees(self):
        refused = accepted = 0
        for shape, term in (
            ((1, 1), 1), ((1, 4), 15), ((2, 1), 3), ((2, 2), 7), ((3, 2), 11), ((8, 1), 255), ((2, 4), 219),
            ((4, 2), 99),
        ):
            least = least_place(shape, term)
            for place in (least, least + 1, least + 3):
                tree = tree_for(shape, term, place)
                for value in bent_trees(shape, tree):
                    before = copied(value)
                    if self.check(shape, term, place, value):
                        accepted += 1
                    else:
                        refused += 1
                    self.assertTrue(same(value, before))
        self.assertLess(10, accepted)
        self.assertLess(3000, refused)

    def test_parts_of_another_place(self):
        # (2, 2): input bits 0 and 2 have place 0, input bits 1 and 3 place 1.
        for value, term, place in (
            (("join", 0, 1), 3, 1), (("join", 1, 0), 3, 1), (("join", 0, 1), 3, 2), (("join", ("raise", 0), 0), 1, 2),
            (("join", ("join", 0, 2), 2), 5, 2), (("join", ("raise", 0), ("raise", 1)), 3, 2),
            (("join", ("raise", 1), ("raise", 0)), 3, 2), (("raise", ("join", 0, 3)), 9, 2),
        ):
            self.assertFalse(self.check((2, 2), term, place, value))
        for value, term, place in (
            (("join", ("raise", 0), 1), 3, 2), (("join", 3, ("raise", 0)), 9, 2), (("join", ("join", 2, 0), 1), 7, 2),
            (("raise", ("join", ("raise", 0), 1)), 3, 3), (("join", 0, 2), 5, 1), (("join", 2, 0), 5, 1), (3, 8, 1),
        ):
            self.assertTrue(self.check((2, 2), term, place, value))

    def test_input_bits(self):
        for shape in SHAPES:
            bits = shape[0] * shape[1]
            for term in [2 ** bit for bit in range(bits)] + [2 ** bits - 1]:
                for place in (0, 1, shape[0] - 1, shape[0], 40):
                    for value in [*range(-2, bits + 2), True, False]:
                        wanted = type(value) is int and 2 ** value == term and value % shape[0] == place
                        self.assertIs(shows_tree(shape, term, place, value), wanted, (shape, term, place, value))

    def test_one_bit_twice(self):
        for value, term in (
            (("join", 0, 0), 1), (("join", ("join", 0, 2), ("join", 0, 2)), 5),
            (("join", ("raise", 0), ("raise", 0)), 1),
            (("join", ("join", 0, 2), ("raise", 0)), 5), (("join", ("join", 0, 2), ("join", 2, 4)), 21),
        ):
            for place in (0, 1, 2):
                self.assertFalse(self.check((2, 4), term, place, value))
        self.assertTrue(self.check((2, 4), 21, 2, ("join", ("join", 0, 2), ("raise", 4))))

    def test_values_of_every_kind(self):
        values = odd_values() + odd_integers() + [
            nested(tuple, 60, 0), nested_raises(0, 58), nested_raises(0, 59), nested_raises([0], 58),
            nested_raises({}, 40), nested_raises(True, 3), ["raise", 0], ("raise",), ("join",), ("join", 0), "raise 0",
            {"raise": 0}, ("raise", 0, 0), ("join", 0, 2, 4), (0,), ((0,),), (("raise", 0),), ("raise", (0,)),
        ]
        for shape in SHAPES:
            bits = shape[0] * shape[1]
            for value in values:
                for term, place in ((1, 0), (1, 3), (2 ** bits - 1, 4), (2 ** (bits - 1), 40)):
                    before = copied(value)
                    if type(value) is not int and value != nested_raises(0, 58):
                        self.assertIs(shows_tree(shape, term, place, value), False)
                    self.check(shape, term, place, value)
                    self.assertTrue(same(value, before))

    def test_parts_that_are_one_object(self):
        # Written out, these would have 2 ** 60 parts.
        for start in (0, 1, 8, None, [], ("raise", 0)):
            value = start
            for _ in range(58):
                value = ("join", value, value)
            for place in (0, 1, 39, 40):
                for term in (1, 2, 255):
                    self.assertIs(shows_tree((4, 2), term, place, value), False)

    def test_deep_trees(self):
        for place in range(41):
            tree = nested_raises(0, place)
            self.assertIs(shows_tree((2, 2), 1, place, tree), True)
            self.assertIs(shows_tree((2, 2), 1, place, ("raise", tree)), False)
            self.assertIs(shows_tree((2, 2), 5, place + 1, ("join", tree, nested_raises(2, place))), True)


class Guarantee(unittest.TestCase):
    def test_a_term_alone(self):
        for shape in SHAPES:
            width, inputs = shape
            for term in all_terms(shape):
                if width * inputs == 8 and term % 3:
                    continue
                for place in range(width):
                    table = table_of_terms(shape, [(term,) if other == place else () for other in range(width)])
                    self.check(shape, term, place, table)

    def check(self, shape, term, place, table):
        """Check that additions compute a table that has one term at a place exactly if there is a tree for it."""
        if place < least_place(shape, term):
            self.assertRaises(TooLow, tree_for, shape, term, place)
            self.assertIs(computes("adding", shape, table), False)
            self.assertRaises(NotComputed, program_for, "adding", shape, table)
            return
        self.assertTrue(is_tree(shape, term, place, tree_for(shape, term, place)))
        self.assertIs(computes("adding", shape, table), True)
        program = program_for("adding", shape, table)
        self.assertIs(is_of("adding", program), True)
        self.assertTrue({step[0] for step in program} <= SETS["adding"])
        self.assertEqual(table_of(shape, program), table)


class Arguments(unittest.TestCase):
    def test_by_name_in_another_order(self):
        tree = ("join", ("join", 0, 3), 1)
        self.assertEqual(least_place(term=11, shape=(3, 2)), 2)
        self.assertTrue(is_tree((3, 2), 11, 3, tree_for(place=3, term=11, shape=(3, 2))))
        self.assertIs(shows_tree(value=tree, place=2, term=11, shape=(3, 2)), True)
        self.assertIs(shows_tree(value=tree, place=3, term=11, shape=(3, 2)), False)
        self.assertRaises(TooLow, tree_for, place=1, term=11, shape=(3, 2))

    def test_equal_calls(self):
        for _ in range(2):
            self.assertEqual(least_place((3, 2), 11), 2)
            self.assertIs(shows_tree((3, 2), 11, 2, ("join", ("join", 0, 3), 1)), True)
            self.assertRaises(TooLow, tree_for, (3, 2), 11, 1)


if __name__ == "__main__":
    unittest.main()
