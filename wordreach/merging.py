"""Merging: how a term is built by additions, as a tree of carries."""

from wordreach.errors import TooLow
from wordreach.tables import input_bits, is_integer
from wordreach.terms import bits_of, weight


def least_place(shape, term):
    """Return the least place of a tree for a term."""
    place = 0
    while weight(shape, term) > 1 << place:
        place += 1
    return place


def bits_at(shape, term, place):
    """Return the input bits of a term that have a place, ascending."""
    return [bit for bit in bits_of(shape, term) if bit % shape[0] == place]


def merged(trees):
    """Return trees of the next place that have what these trees of one place have, as few as possible."""
    pairs = [("join", trees[at], trees[at + 1]) for at in range(0, len(trees) - 1, 2)]
    if len(trees) & 1 == 1:
        return [*pairs, ("raise", trees[len(trees) - 1])]
    return pairs


def tree_for(shape, term, place):
    """Return a tree for a term with a place; raise TooLow if it is below the least one."""
    least = least_place(shape, term)
    if place < least:
        raise TooLow(least)
    trees = bits_at(shape, term, 0)
    for higher in range(1, place + 1):
        trees = merged(trees) + bits_at(shape, term, higher)
    # The number of trees at a place is the weight so far over 2 ** place, rounded up: here it is 1.
    return trees[0]


def is_input_bit(shape, place, value):
    """Return whether a value is an input bit with a place."""
    return is_integer(value) and 0 <= value < input_bits(shape) and value % shape[0] == place


def parts_of(value):
    """Return the parts of a raise or a join, none for any other value."""
    if not isinstance(value, tuple) or len(value) == 0:
        return ()
    if (value[0] == "raise" and len(value) == 2) or (value[0] == "join" and len(value) == 3):
        return value[1:]
    return ()


def tree_bits(shape, place, value):
    """Return the number with a 1 at each input bit of a tree, 0 if it is none with this place or has a bit twice."""
    if is_input_bit(shape, place, value):
        return 1 << value
    bits = 0
    for part in parts_of(value):
        found = tree_bits(shape, place - 1, part)
        # Going no further keeps this short where the parts of a value are one and the same object.
        if found == 0 or found & bits != 0:
            return 0
        bits = bits | found
    return bits


def shows_tree(shape, term, place, value):
    """Return whether a value is a tree for a term with a place."""
    return tree_bits(shape, place, value) == term
