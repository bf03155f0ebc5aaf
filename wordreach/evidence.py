"""Evidence that no program of a set computes a table."""

from wordreach.judging import first_fall, first_misfit, may_count, stray_bits, term_fits
from wordreach.sets import check_name, family_of
from wordreach.tables import is_integer, is_place, result_bit, table_size

# How many input numbers stand behind the place in each kind of evidence.
NUMBERS = {"apart": 2, "falls": 2, "four": 3, "heavy": 1}

# The kinds of evidence that there are against the sets of a family.
KINDS = {
    "any": ("apart",),
    "monotone": ("apart", "falls"),
    "affine": ("apart", "four"),
    "adding": ("apart", "heavy"),
    "multiplying": ("apart", "heavy"),
}


def lowest_bit(number):
    """Return the lowest bit that is 1 in a number other than 0, alone."""
    return number & -number


def first_apart(row, bit):
    """Return the first two numbers that differ in one bit alone and at which the row has unlike entries."""
    numbers = [number for number, entry in enumerate(row) if entry != row[number ^ bit]]
    return (numbers[0], numbers[0] ^ bit)


def fall_at(shape, row, place):
    """Return evidence that a result bit falls, None if it never does."""
    found = first_fall(shape, row)
    if found is None:
        return None
    first, second = found
    return ("falls", place, first, second)


def misfit_at(name, shape, table, place):
    """Return evidence that a result bit has a term that does not fit a set, None if it has none."""
    term = first_misfit(name, shape, table, place)
    if term is None:
        return None
    if family_of(name) == "affine":
        # All smaller terms within the least misfit have one bit at most and cancel out, so that its own 1 is left.
        low = lowest_bit(term)
        return ("four", place, 0, low, term ^ low)
    return ("heavy", place, term)


def evidence_at(name, shape, table, place):
    """Return evidence that a result bit does not fit a set, None if it fits."""
    row = result_bit(shape, table, place)
    stray = stray_bits(name, shape, table, place)
    if stray != 0:
        first, second = first_apart(row, lowest_bit(stray))
        return ("apart", place, first, second)
    if family_of(name) == "monotone":
        return fall_at(shape, row, place)
    return misfit_at(name, shape, table, place)


def evidence_against(name, shape, table):
    """Return evidence that no program of a set computes a table, None if there is none; raise UnknownName."""
    check_name(name)
    for place in range(shape[0]):
        found = evidence_at(name, shape, table, place)
        if found is not None:
            return found
    return None


def is_input_number(shape, value):
    """Return whether a value is an input number of a shape."""
    return is_integer(value) and 0 <= value < table_size(shape)


def has_form(name, shape, value):
    """Return whether a value has the form of evidence against a set, whatever it shows."""
    if not isinstance(value, tuple) or len(value) < 2:
        return False
    kind, place, *numbers = value
    if kind not in KINDS[family_of(name)]:
        return False
    if not is_place(shape, place) or len(numbers) != NUMBERS[kind]:
        return False
    return all([is_input_number(shape, number) for number in numbers])


def is_apart(row, counting, first, second):
    """Return whether two numbers are equal at all bits that may count and have unlike entries."""
    return (first ^ second) & counting == 0 and row[first] != row[second]


def is_fall(row, first, second):
    """Return whether the second number has all bits of the first one, and the row falls between them."""
    return first & second == first and row[first] == 1 and row[second] == 0


def is_odd_four(row, first, second, third):
    """Return whether the entries at three numbers and at their exclusive or have an odd sum."""
    return (row[first] + row[second] + row[third] + row[first ^ second ^ third]) & 1 == 1


def is_term(row, term):
    """Return whether the row is 1 for an odd number of the numbers within a term."""
    return sum([entry for number, entry in enumerate(row) if number | term == term]) & 1 == 1


def shows_against(name, shape, table, value):
    """Return whether a value is evidence against a set; raise UnknownName for no set."""
    check_name(name)
    if not has_form(name, shape, value):
        return False
    kind, place, *numbers = value
    row = result_bit(shape, table, place)
    if kind == "apart":
        return is_apart(row, may_count(name, shape, place), numbers[0], numbers[1])
    if kind == "falls":
        return is_fall(row, numbers[0], numbers[1])
    if kind == "four":
        return is_odd_four(row, numbers[0], numbers[1], numbers[2])
    return not term_fits(name, shape, place, numbers[0]) and is_term(row, numbers[0])
