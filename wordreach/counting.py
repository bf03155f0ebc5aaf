"""How many terms fit a place, and how many functions a set computes."""

from wordreach.errors import NoPlace, TooMany, UnknownName
from wordreach.judging import may_count, term_fits
from wordreach.sets import check_name, family_of
from wordreach.tables import is_place, table_size
from wordreach.terms import bits_of

# How many functions of 0, 1, 2, .. bits never fall (Dedekind's numbers); nobody knows how to compute further ones.
MONOTONE = (
    2,
    3,
    6,
    20,
    168,
    7581,
    7828354,
    2414682040998,
    56130437228687557907788,
    286386577668298411128469151667598498812366,
)

# The most bits of which functions of a monotone set are counted.
MOST_BITS = 5


def fitting_terms(name, shape, place):
    """Return how many terms fit a set at a place."""
    return len([term for term in range(table_size(shape)) if term_fits(name, shape, place, term)])


def count_terms(name, shape, place):
    """Return how many terms fit `adding` or `multiplying` at a place; raise UnknownName or NoPlace."""
    if name not in ("adding", "multiplying"):
        raise UnknownName(name)
    if not is_place(shape, place):
        raise NoPlace(place)
    return fitting_terms(name, shape, place)


def count_monotone(bits):
    """Return how many functions of so many bits never change from 1 to 0 if further bits become 1."""
    return MONOTONE[bits]


def counting_many(name, shape, place):
    """Return how many input bits may count for a set and a place."""
    return len(bits_of(shape, may_count(name, shape, place)))


def count_bits(name, shape, place):
    """Return how many result bits at a place fit a set."""
    many = counting_many(name, shape, place)
    family = family_of(name)
    if family == "any":
        return 1 << (1 << many)
    if family == "monotone":
        return count_monotone(many)
    if family == "affine":
        return 1 << (many + 1)
    return 1 << fitting_terms(name, shape, place)


def check_countable(name, shape):
    """Raise TooMany if a set is monotone and more bits may count at a place than functions are counted of."""
    if family_of(name) == "monotone":
        for place in range(shape[0]):
            many = counting_many(name, shape, place)
            if many > MOST_BITS:
                raise TooMany(many)


def count_functions(name, shape):
    """Return how many functions a set computes; raise UnknownName or TooMany."""
    check_name(name)
    check_countable(name, shape)
    result = 1
    for place in range(shape[0]):
        result = result * count_bits(name, shape, place)
    return result
