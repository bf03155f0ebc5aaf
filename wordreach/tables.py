"""Shapes, words, input numbers and the tables of functions."""

from wordreach.errors import NoPlace, UnknownName


def is_integer(value):
    """Return whether a value is an integer; a boolean is none."""
    return isinstance(value, int) and not isinstance(value, bool)


def is_shape(value):
    """Return whether a value is a shape."""
    if not isinstance(value, tuple) or len(value) != 2:
        return False
    width, inputs = value
    if not is_integer(width) or not is_integer(inputs):
        return False
    return 1 <= width <= 8 and 1 <= inputs <= 4 and width * inputs <= 8


def greatest_word(shape):
    """Return the word of a shape that has a 1 at each place."""
    return (1 << shape[0]) - 1


def is_word(shape, value):
    """Return whether a value is a word of a shape."""
    return is_integer(value) and 0 <= value <= greatest_word(shape)


def is_place(shape, value):
    """Return whether a value is a place of a shape."""
    return is_integer(value) and 0 <= value < shape[0]


def input_bits(shape):
    """Return how many input bits a shape has."""
    width, inputs = shape
    return width * inputs


def table_size(shape):
    """Return how many input numbers a shape has."""
    return 1 << input_bits(shape)


def is_table(shape, value):
    """Return whether a value is a table of a shape."""
    if not isinstance(value, tuple) or len(value) != table_size(shape):
        return False
    return all([is_word(shape, result) for result in value])


def words_of(shape, number):
    """Return the tuple of words that an input number stands for."""
    width, inputs = shape
    return tuple([(number >> (k * width)) & greatest_word(shape) for k in range(inputs)])


def number_of(shape, words):
    """Return the input number that stands for a tuple of words."""
    width = shape[0]
    return sum([word << (k * width) for k, word in enumerate(words)])


def first_word(shape, words):
    """Return the first word."""
    return words[0]


def reversed_word(shape, words):
    """Return the first word with its bits in reverse order."""
    width = shape[0]
    return sum([((words[0] >> place) & 1) << (width - 1 - place) for place in range(width)])


def ones_of_words(shape, words):
    """Return how many bits of all words are 1."""
    return sum([(word >> place) & 1 for word in words for place in range(shape[0])])


def sum_of_words(shape, words):
    """Return the sum of all words."""
    return sum(words)


def product_of_words(shape, words):
    """Return the product of all words."""
    result = 1
    for word in words:
        result = result * word
    return result


def greatest_of_words(shape, words):
    """Return the greatest one of all words."""
    return max(words)


def least_of_words(shape, words):
    """Return the least one of all words."""
    return min(words)


def and_of_words(shape, words):
    """Return the bits that are 1 in all words."""
    result = words[0]
    for word in words:
        result = result & word
    return result


def or_of_words(shape, words):
    """Return the bits that are 1 in some word."""
    result = 0
    for word in words:
        result = result | word
    return result


def xor_of_words(shape, words):
    """Return the bits that are 1 in an odd number of words."""
    result = 0
    for word in words:
        result = result ^ word
    return result


KNOWN = {
    "first": first_word,
    "reversed": reversed_word,
    "ones": ones_of_words,
    "sum": sum_of_words,
    "product": product_of_words,
    "greatest": greatest_of_words,
    "least": least_of_words,
    "and": and_of_words,
    "or": or_of_words,
    "xor": xor_of_words,
}


def known_table(shape, name):
    """Return the table of a known function; raise UnknownName for any other name."""
    # A list or a dict cannot be looked up in a dict, so the kind of the name is asked first.
    if not isinstance(name, str) or name not in KNOWN:
        raise UnknownName(name)
    function = KNOWN[name]
    results = [function(shape, words_of(shape, number)) for number in range(table_size(shape))]
    # Only counts, sums and products can be too great; no word is changed by this.
    return tuple([result & greatest_word(shape) for result in results])


def result_bit(shape, table, place):
    """Return the bits of all results at a place; raise NoPlace unless it is one."""
    if not is_place(shape, place):
        raise NoPlace(place)
    return tuple([(result >> place) & 1 for result in table])
