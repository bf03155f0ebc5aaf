"""Tables that look random, that fit a set, or that fit it but for one bit or one term; expressions for programs."""

import operator

from tests.reference import SETS, Facts, may_count, table_of_terms
from tests.values import scattered, scattered_table
from wordreach.expressions import constant, input_words
from wordreach.tables import known_table

KNOWN = ("first", "reversed", "ones", "sum", "product", "greatest", "least", "and", "or", "xor")


def general_tables(shape):
    """Return tables of a shape that are made for no set: known ones, constants and some that look random."""
    size = 2 ** (shape[0] * shape[1])
    constants = [(word,) * size for word in (0, 2 ** shape[0] - 1)]
    return [known_table(shape, name) for name in KNOWN] + constants + [scattered_table(shape, k) for k in (1, 2)]


def input_bit_tables(shape):
    """Return triples of an input bit, a place, and the table that has this bit at this place and 0 elsewhere."""
    width, inputs = shape
    return [
        (bit, place, tuple(2 ** place * (number // 2 ** bit % 2) for number in range(2 ** (width * inputs))))
        for bit in range(width * inputs) for place in range(width)
    ]


def terms_within(name, shape, place):
    """Return all terms of the input bits that may count for a set and a place."""
    width, inputs = shape
    stray = sum(2 ** bit for bit in range(width * inputs) if not may_count(name, place, bit % width))
    return [term for term in range(2 ** (width * inputs)) if term & stray == 0]


def fitting_terms(name, shape, place):
    """Return all terms that a result bit of a set may have at a place, for a set that is not monotone."""
    facts = Facts(shape, (0,) * 2 ** (shape[0] * shape[1]), place)
    return [term for term in terms_within(name, shape, place) if facts.term_fits(name, term)]


def some_of(rows, seed):
    """Return about half of a list, ascending."""
    return [row for row, number in zip(rows, scattered(len(rows), 2, seed)) if number == 1]


def flipped(table, number, place):
    """Return a table with one result bit exchanged."""
    return table[:number] + (table[number] ^ 2 ** place,) + table[number + 1:]


def monotone_table(name, shape, seed):
    """Return a table of a monotone set: each result bit is the or of some ands."""
    width, inputs = shape
    rows = []
    for place in range(width):
        ands = terms_within(name, shape, place)
        rows.append([ands[k] for k in scattered(3, len(ands), seed + place)])
    return tuple(
        sum(2 ** place for place in range(width) if any(term | number == number for term in rows[place]))
        for number in range(2 ** (width * inputs))
    )


def fitting_table(name, shape, seed):
    """Return a table that fits a set and otherwise looks random."""
    if name.startswith("monotone"):
        return monotone_table(name, shape, seed)
    rows = [some_of(fitting_terms(name, shape, place), seed + place) for place in range(shape[0])]
    return table_of_terms(shape, rows)


def bent_tables(name, shape, seed):
    """Return tables that fit a set but for one bit of one result, or but for one term of one result bit."""
    width, inputs = shape
    size = 2 ** (width * inputs)
    table = fitting_table(name, shape, seed)
    bent = [
        flipped(table, number, place) for number, place in zip(scattered(3, size, seed), scattered(3, width, seed))
    ]
    for term, place in zip(scattered(4, size, seed + 1), scattered(4, width, seed + 1)):
        bent.append(tuple(result ^ 2 ** place if n | term == n else result for n, result in enumerate(table)))
    return bent


def tables_for(name, shape):
    """Return tables to judge a set by: some that fit, and some that fit but for a part."""
    return [fitting_table(name, shape, 5), fitting_table(name, shape, 17)] + bent_tables(name, shape, 29)


def led(shape, step, values):
    """Return the expression that has the operator of an instruction, from the expressions for all earlier values."""
    word, *operands = step
    if word == "const":
        return constant(shape, operands[0])
    one = values[operands[0]]
    if word == "mask":
        return one & operands[1]
    if word == "not":
        return ~one
    return MOVES[word](one, 1) if word in MOVES else BETWEEN[word](one, values[operands[1]])


def led_along(shape, program):
    """Return the expressions for all values of a program, the input words first."""
    values = list(input_words(shape))
    for step in program:
        values.append(led(shape, step, values))
    return values


# The operators of expressions, by the words of the instructions that they denote.
BETWEEN = {
    "and": operator.and_, "or": operator.or_, "xor": operator.xor,
    "add": operator.add, "sub": operator.sub, "mul": operator.mul,
}
MOVES = {"up": operator.lshift, "down": operator.rshift}

NAMES = tuple(sorted(SETS))
