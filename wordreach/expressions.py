"""Expressions over the words of a shape, each with the table and a program of what it denotes."""

from wordreach.errors import InvalidOperand, InvalidWords
from wordreach.programs import are_words, result_of
from wordreach.tables import greatest_word, is_integer, is_word, number_of, result_bit, table_size, words_of
from wordreach.trimming import numbered, renumbered

# The greatest number of places by which one operator moves.
MOST_MOVES = 8


class Expression:
    """An immutable expression; `input_words`, `constant` and the operators make it."""

    def __init__(self, shape, table, steps, number):
        self._shape = shape
        self._table = table
        # The instructions that are denoted, each once, and the number of the expression's value behind them.
        self._steps = steps
        self._number = number

    @property
    def shape(self):
        """The shape of the words."""
        return self._shape

    @property
    def table(self):
        """The table of the function that is denoted."""
        return self._table

    @property
    def program(self):
        """A program that computes the function with the instructions that are denoted."""
        if len(self._steps) == 0:
            # An input word denotes no instruction, but a program has one at least.
            return (("mask", self._number, greatest_word(self._shape)),)
        return self._steps

    def __and__(self, other):
        if is_word(self._shape, other):
            return altered(self, "mask", other)
        return joined("and", self, operand_of(self._shape, other))

    def __rand__(self, other):
        return self & other

    def __or__(self, other):
        return joined("or", self, operand_of(self._shape, other))

    def __ror__(self, other):
        return joined("or", operand_of(self._shape, other), self)

    def __xor__(self, other):
        return joined("xor", self, operand_of(self._shape, other))

    def __rxor__(self, other):
        return joined("xor", operand_of(self._shape, other), self)

    def __add__(self, other):
        return joined("add", self, operand_of(self._shape, other))

    def __radd__(self, other):
        return joined("add", operand_of(self._shape, other), self)

    def __sub__(self, other):
        return joined("sub", self, operand_of(self._shape, other))

    def __rsub__(self, other):
        return joined("sub", operand_of(self._shape, other), self)

    def __mul__(self, other):
        return joined("mul", self, operand_of(self._shape, other))

    def __rmul__(self, other):
        return joined("mul", operand_of(self._shape, other), self)

    def __lshift__(self, other):
        return moved(self, "up", other)

    def __rshift__(self, other):
        return moved(self, "down", other)

    def __invert__(self):
        return altered(self, "not")

    def __eq__(self, other):
        return isinstance(other, Expression) and self._shape == other._shape and self._table == other._table

    def __call__(self, words):
        if not are_words(self._shape, words):
            raise InvalidWords(words)
        return self._table[number_of(self._shape, words)]

    def __getitem__(self, place):
        return result_bit(self._shape, self._table, place)

    def __iter__(self):
        raise TypeError("an expression is not iterated over")

    def __contains__(self, word):
        return word in [step[0] for step in self._steps]

    def __bool__(self):
        return any([result != 0 for result in self._table])

    def lies_in(self, b):
        """Return whether each bit of the result is 1 in that of another expression; raise InvalidOperand."""
        if not isinstance(b, Expression) or b._shape != self._shape:
            raise InvalidOperand(b)
        return all([result & above == result for result, above in zip(self._table, b._table)])


def operand_of(shape, value):
    """Return an operand as an expression: a word stands for a constant; raise InvalidOperand for any other value."""
    if isinstance(value, Expression) and value.shape == shape:
        return value
    if not is_word(shape, value):
        raise InvalidOperand(value)
    return constant(shape, value)


def altered(one, word, *operands):
    """Return the expression for an instruction over one expression, and perhaps a word."""
    shape = one.shape
    greatest = greatest_word(shape)
    table = tuple([result_of((word, 0, *operands), (result,), greatest) for result in one.table])
    steps = one._steps + ((word, one._number, *operands),)
    return Expression(shape, table, steps, shape[1] + len(steps) - 1)


def joined(word, one, other):
    """Return the expression for an instruction over two expressions of one shape."""
    shape = one.shape
    inputs = shape[1]
    greatest = greatest_word(shape)
    table = tuple([result_of((word, 0, 1), results, greatest) for results in zip(one.table, other.table)])
    behind = inputs + len(one._steps)
    numbers = list(range(inputs)) + list(range(behind, behind + len(other._steps)))
    moved_steps = tuple([renumbered(step, numbers) for step in other._steps])
    last = (word, one._number, numbers[other._number])
    # No earlier instruction takes the values of both, so the last one is new and its value the last one.
    steps = numbered(one._steps + moved_steps + (last,), inputs=inputs)
    return Expression(shape, table, steps, inputs + len(steps) - 1)


def moved(one, word, many):
    """Return an expression moved by so many places; raise InvalidOperand for what is no number of places."""
    if not is_integer(many) or many < 0 or many > MOST_MOVES:
        raise InvalidOperand(many)
    result = one
    for _ in range(many):
        result = altered(result, word)
    return result


def input_words(shape):
    """Return the tuple of the expressions for the input words."""
    rows = [words_of(shape, number) for number in range(table_size(shape))]
    return tuple([Expression(shape, tuple([row[k] for row in rows]), (), k) for k in range(shape[1])])


def constant(shape, word):
    """Return the expression for a constant word."""
    return Expression(shape, (word,) * table_size(shape), (("const", word),), shape[1])
