"""Building programs that compute a table, or as much of it as a set can."""

from wordreach.errors import NotComputed
from wordreach.judging import bit_fits, given_bits
from wordreach.merging import tree_for
from wordreach.sets import family_of, instructions_of
from wordreach.tables import greatest_word, input_bits, result_bit
from wordreach.terms import bits_of, terms


class Bench:
    """A program of a set in the making, in which no instruction stands twice."""

    def __init__(self, name, shape):
        self.family = family_of(name)
        self.words = instructions_of(name)
        # What joins the parts of a result: the monotone sets have no `xor`, most other sets no `or`.
        self.joiner = "or" if self.family == "monotone" else "xor"
        self.word_shape = shape
        self.steps = []
        self.known = {}

    def value_of(self, *step):
        """Return the number of the value of an instruction, which is appended unless it is there already."""
        if step not in self.known:
            self.known[step] = self.word_shape[1] + len(self.steps)
            self.steps.append(step)
        return self.known[step]

    def moved(self, number, word, places):
        """Return the number of a value moved by so many places."""
        for _ in range(places):
            number = self.value_of(word, number)
        return number

    def folded(self, word, numbers):
        """Return the number of what an instruction over two values makes of one or more values."""
        result = numbers[0]
        for number in numbers[1:]:
            result = self.value_of(word, result, number)
        return result

    def joined(self, numbers):
        """Return the number of the value that joins some values, 0 if there are none."""
        if len(numbers) == 0:
            return self.value_of("const", 0)
        return self.folded(self.joiner, numbers)


def aligned(bench, bit, place):
    """Return the number of a value that has an input bit at a place: its word, moved."""
    width = bench.word_shape[0]
    start = bit % width
    if start < place:
        return bench.moved(bit // width, "up", place - start)
    return bench.moved(bit // width, "down", start - place)


def planted(bench, tree):
    """Return the number of a value that has the product of a tree's input bits at the tree's place."""
    if not isinstance(tree, tuple):
        return tree // bench.word_shape[0]
    one = planted(bench, tree[1])
    if tree[0] == "raise":
        return bench.value_of("up", one)
    other = planted(bench, tree[2])
    # A sum is the exclusive or and the carries, so the difference of these two is the carries.
    return bench.value_of("sub", bench.value_of("add", one, other), bench.value_of("xor", one, other))


def product_at(bench, term, place):
    """Return the number of a value that has the product of a term's bits at a place."""
    shape = bench.word_shape
    if term == 0:
        return bench.value_of("const", greatest_word(shape))
    if bench.family in ("adding", "multiplying"):
        return planted(bench, tree_for(shape, term, place))
    return bench.folded("and", [aligned(bench, bit, place) for bit in bits_of(shape, term)])


def switch_bits(bench, term):
    """Return the bits of a term that a set takes as a factor of the whole word: at place 0, if it multiplies."""
    width = bench.word_shape[0]
    if bench.family != "multiplying":
        return ()
    return tuple([bit for bit in bits_of(bench.word_shape, term) if bit % width == 0])


def least_numbers(shape, row):
    """Return the numbers at which a row that never falls is 1, but at none without one of their bits."""
    return [
        number for number, entry in enumerate(row)
        if entry == 1 and not any([row[number ^ (1 << bit)] == 1 for bit in bits_of(shape, number)])
    ]


def products_for(bench, table, place):
    """Return the terms whose products, joined as the set joins them, are a result bit."""
    shape = bench.word_shape
    if bench.family == "monotone":
        return least_numbers(shape, result_bit(shape, table, place))
    return terms(shape, table, place)


def masks_for(bench, table):
    """Return for each tuple of switch bits which values to join: from a value's number to the mask over it."""
    masks = {}
    for place in range(bench.word_shape[0]):
        for term in products_for(bench, table, place):
            switch = switch_bits(bench, term)
            number = product_at(bench, term - sum([1 << bit for bit in switch]), place)
            words = masks.setdefault(switch, {})
            words[number] = words.get(number, 0) | (1 << place)
    return masks


def switched(bench, switch, number):
    """Return the number of what is a value if all switch bits are 1, and 0 if not."""
    width = bench.word_shape[0]
    return bench.folded("mul", [number] + [bench.value_of("mask", bit // width, 1) for bit in switch])


def product_sum(bench, table):
    """Return the number of a value with the results of a table that fits, joined from products of input bits."""
    parts = []
    masks = masks_for(bench, table)
    for switch, words in masks.items():
        masked = [bench.value_of("mask", number, word) for number, word in words.items()]
        parts.append(switched(bench, switch, bench.joined(masked)))
    return bench.joined(parts)


def spread(bench, bit):
    """Return the number of a value that has an input bit at each place for which it may count, 0 at the others."""
    width = bench.word_shape[0]
    start = bit % width
    lone = bench.value_of("mask", bit // width, 1 << start)
    copies = [lone]
    if "up" in bench.words:
        copies.extend([bench.moved(lone, "up", by) for by in range(1, width - start)])
    if "down" in bench.words:
        copies.extend([bench.moved(lone, "down", by) for by in range(1, start + 1)])
    return bench.joined(copies)


def decision(bench, row, bits):
    """Return the number of a value with the results of a row that fits, decided by one input bit after the other."""
    if row == (row[0],) * len(row):
        return bench.value_of("const", row[0])
    half = len(row) // 2
    low = row[:half]
    high = row[half:]
    if low == high:
        return decision(bench, low, bits - 1)
    switch = spread(bench, bits - 1)
    one = decision(bench, low, bits - 1)
    other = decision(bench, high, bits - 1)
    # In a monotone set the higher half has all bits of the lower one; else the change is the exclusive or.
    change = other if bench.family == "monotone" else bench.value_of("xor", one, other)
    return bench.value_of(bench.joiner, one, bench.value_of("and", switch, change))


def built(name, shape, table):
    """Return a program of a set for a table that fits it, the shorter one of two where there are two."""
    # The value that is made last on a bench is always that of its last instruction.
    bench = Bench(name, shape)
    product_sum(bench, table)
    if "and" not in bench.words:
        return tuple(bench.steps)
    other = Bench(name, shape)
    decision(other, table, input_bits(shape))
    return tuple(other.steps) if len(other.steps) < len(bench.steps) else tuple(bench.steps)


def program_for(name, shape, table):
    """Return a program of a set that computes a table; raise UnknownName or NotComputed."""
    for place in range(shape[0]):
        if not bit_fits(name, shape, table, place):
            raise NotComputed(place)
    return built(name, shape, table)


def part_program(name, shape, table):
    """Return a program of a set for the result bits that fit it, with 0 at all other places; raise UnknownName."""
    given = given_bits(name, shape, table)
    return built(name, shape, tuple([result & given for result in table]))
