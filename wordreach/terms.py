"""Terms: the result bits of a table as sums modulo 2 of products of input bits."""

from wordreach.tables import input_bits, result_bit, table_size


def added_along(bit, row):
    """Return a row in which each number that has a bit also counts the number without it."""
    return [
        entry ^ row[number - (1 << bit)] if (number >> bit) & 1 == 1 else entry
        for number, entry in enumerate(row)
    ]


def sums_within(shape, row):
    """Return for each input number the sum modulo 2 of a row's entries at all numbers within it.

    A number is within another one if it has no bit that the other one does not have.
    """
    # Doing this twice changes nothing, so one function turns results to terms and terms to results.
    sums = list(row)
    for bit in range(input_bits(shape)):
        sums = added_along(bit, sums)
    return sums


def terms(shape, table, place):
    """Return the ascending tuple of the terms of a result bit; raise NoPlace for no place."""
    sums = sums_within(shape, result_bit(shape, table, place))
    return tuple([term for term, entry in enumerate(sums) if entry == 1])


def marks_of(shape, members):
    """Return a list with a 1 at each of the given terms and a 0 at all other ones."""
    marks = [0] * table_size(shape)
    for term in members:
        marks[term] = 1
    return marks


def word_at(columns, number):
    """Return the word whose bit at each place is that of the place's column at a number."""
    return sum([column[number] << place for place, column in enumerate(columns)])


def table_from(shape, rows):
    """Return the table whose result bits have the terms of the rows, one row for each place."""
    columns = [sums_within(shape, marks_of(shape, members)) for members in rows]
    return tuple([word_at(columns, number) for number in range(table_size(shape))])


def bits_of(shape, term):
    """Return the input bits of a term, ascending."""
    return [bit for bit in range(input_bits(shape)) if (term >> bit) & 1 == 1]


def places_of(shape, term):
    """Return the places of the bits of a term, a place once for each bit."""
    width = shape[0]
    return [bit % width for bit in bits_of(shape, term)]


def weight(shape, term):
    """Return the weight of a term."""
    return sum([1 << place for place in places_of(shape, term)])


def light_weight(shape, term):
    """Return the weight of a term without its bits at place 0."""
    return sum([1 << place for place in places_of(shape, term) if place > 0])


def depends_on(row, bit):
    """Return whether changing an input bit alone changes an entry of a row."""
    return any([entry != row[number ^ (1 << bit)] for number, entry in enumerate(row)])


def counting_bits(shape, table, place):
    """Return the number with a 1 at each input bit on which a result bit depends."""
    row = result_bit(shape, table, place)
    return sum([1 << bit for bit in range(input_bits(shape)) if depends_on(row, bit)])
