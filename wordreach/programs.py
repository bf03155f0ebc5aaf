"""Programs: their form, what they compute, and the instructions that they use."""

from wordreach.errors import InvalidWords
from wordreach.sets import instructions_of
from wordreach.tables import greatest_word, is_integer, is_word, table_size, words_of

# What the operands of each instruction are: the number of an earlier value, or a word.
OPERANDS = {
    "const": ("word",),
    "mask": ("value", "word"),
    "not": ("value",),
    "up": ("value",),
    "down": ("value",),
    "and": ("value", "value"),
    "or": ("value", "value"),
    "xor": ("value", "value"),
    "add": ("value", "value"),
    "sub": ("value", "value"),
    "mul": ("value", "value"),
}


def is_operand(shape, known, kind, value):
    """Return whether a value is an operand of a kind, behind as many known values."""
    if kind == "word":
        return is_word(shape, value)
    return is_integer(value) and 0 <= value < known


def is_instruction(shape, known, value):
    """Return whether a value is an instruction behind as many known values."""
    if not isinstance(value, tuple) or len(value) == 0:
        return False
    word, *operands = value
    # A list or a dict cannot be looked up in a dict, so the kind of the word is asked first.
    if not isinstance(word, str) or word not in OPERANDS:
        return False
    kinds = OPERANDS[word]
    if len(operands) != len(kinds):
        return False
    return all([is_operand(shape, known, kind, operand) for kind, operand in zip(kinds, operands)])


def is_program(shape, value):
    """Return whether a value is a program of a shape."""
    if not isinstance(value, tuple) or len(value) == 0:
        return False
    inputs = shape[1]
    return all([is_instruction(shape, inputs + index, step) for index, step in enumerate(value)])


def combined(word, one, other):
    """Return what an instruction over two values makes of them, before it is cut to a word."""
    if word == "and":
        return one & other
    if word == "or":
        return one | other
    if word == "xor":
        return one ^ other
    if word == "add":
        return one + other
    if word == "sub":
        return one - other
    return one * other


def result_of(step, values, greatest):
    """Return the result of an instruction, from all earlier values and the greatest word."""
    word = step[0]
    if word == "const":
        return step[1]
    one = values[step[1]]
    if word == "mask":
        return one & step[2]
    if word == "not":
        return one ^ greatest
    if word == "up":
        return (2 * one) & greatest
    if word == "down":
        return one // 2
    return combined(word, one, values[step[2]]) & greatest


def are_words(shape, value):
    """Return whether a value is a tuple of one word for each input of a shape."""
    if not isinstance(value, tuple) or len(value) != shape[1]:
        return False
    return all([is_word(shape, word) for word in value])


def values_of(shape, program, words):
    """Return all values of a program in order, the input words first; raise InvalidWords."""
    if not are_words(shape, words):
        raise InvalidWords(words)
    greatest = greatest_word(shape)
    values = list(words)
    for step in program:
        values.append(result_of(step, values, greatest))
    return tuple(values)


def run(shape, program, words):
    """Return the result of a program for a tuple of words; raise InvalidWords."""
    return values_of(shape, program, words)[-1]


def table_of(shape, program):
    """Return the table that a program computes."""
    return tuple([run(shape, program, words_of(shape, number)) for number in range(table_size(shape))])


def words_used(program):
    """Return the ascending tuple of the instruction words of a program."""
    return tuple(sorted({step[0] for step in program}))


def is_of(name, program):
    """Return whether all instructions of a program belong to a set; raise UnknownName for no set."""
    allowed = instructions_of(name)
    return all([step[0] in allowed for step in program])


def first_difference(shape, one, other):
    """Return the least input number for which two programs have unlike results, None if there is none."""
    for number in range(table_size(shape)):
        words = words_of(shape, number)
        if run(shape, one, words) != run(shape, other, words):
            return number
    return None
