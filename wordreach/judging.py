"""Which result bits of a table a set can compute."""

from wordreach.sets import check_name, family_of, instructions_of, is_within, set_names
from wordreach.tables import input_bits, result_bit
from wordreach.terms import counting_bits, light_weight, terms, weight


def leads_to(name, start, place):
    """Return whether the moves of a set lead from one place to another one."""
    words = instructions_of(name)
    if start < place:
        return "up" in words
    if start > place:
        return "down" in words
    return True


def may_count(name, shape, place):
    """Return the number with a 1 at each input bit that may count for a set and a place."""
    width = shape[0]
    return sum([1 << bit for bit in range(input_bits(shape)) if leads_to(name, bit % width, place)])


def stray_bits(name, shape, table, place):
    """Return the input bits on which a result bit depends although they may not count."""
    return counting_bits(shape, table, place) & ~may_count(name, shape, place)


def first_fall(shape, row):
    """Return the first two numbers, one bit apart, between which a row falls from 1 to 0, or None."""
    # A row that falls at all falls on some step of a single bit.
    for number, entry in enumerate(row):
        for bit in range(input_bits(shape)):
            above = number | (1 << bit)
            if entry == 1 and row[above] == 0:
                return (number, above)
    return None


def term_fits(name, shape, place, term):
    """Return whether a term is one that a result bit at a place may have in a set."""
    family = family_of(name)
    if family == "affine":
        return term & (term - 1) == 0
    if family == "adding":
        return weight(shape, term) <= 1 << place
    if family == "multiplying":
        # Light weights are even, so at place 0 only 0 is left: no bits but those at place 0.
        return light_weight(shape, term) <= 1 << place
    return True


def first_misfit(name, shape, table, place):
    """Return the least term of a result bit that does not fit a set, None if there is none."""
    for term in terms(shape, table, place):
        if not term_fits(name, shape, place, term):
            return term
    return None


def bit_fits(name, shape, table, place):
    """Return whether a result bit fits a set; raise UnknownName for no set, NoPlace for no place."""
    check_name(name)
    row = result_bit(shape, table, place)
    if stray_bits(name, shape, table, place) != 0:
        return False
    if family_of(name) == "monotone":
        return first_fall(shape, row) is None
    return first_misfit(name, shape, table, place) is None


def given_bits(name, shape, table):
    """Return the word with a 1 at each place whose result bit fits a set; raise UnknownName for no set."""
    return sum([1 << place for place in range(shape[0]) if bit_fits(name, shape, table, place)])


def computes(name, shape, table):
    """Return whether all result bits fit a set; raise UnknownName for no set."""
    return all([bit_fits(name, shape, table, place) for place in range(shape[0])])


def sets_for(shape, table):
    """Return the ascending tuple of all sets that compute a table."""
    return tuple([name for name in set_names() if computes(name, shape, table)])


def is_least(name, names):
    """Return whether no other one of the named sets lies within a set."""
    return not any([other != name and is_within(other, name) for other in names])


def least_sets(shape, table):
    """Return the ascending tuple of those sets for a table within which no other one of them lies."""
    found = sets_for(shape, table)
    return tuple([name for name in found if is_least(name, found)])
