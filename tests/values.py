"""What several tests need: all shapes, values of every kind, and numbers that look random."""

import copy

SHAPES = tuple(
    (width, inputs) for width in range(1, 9) for inputs in range(1, 5) if width * inputs <= 8
)

WIDEST_SHAPES = tuple(shape for shape in SHAPES if shape[0] * shape[1] == 8)


def nested(kind, depth, core=1):
    """Return a value nested to a depth in lists, tuples or dicts."""
    value = core
    for _ in range(depth):
        value = {"key": value} if kind is dict else kind([value])
    return value


def odd_values():
    """Return new values of every kind; none is an integer, a shape, a table or a known name."""
    return [
        None, True, False, "", " ", "0", "1", "First", "first ", " first", "AND", "not", "up", "adding", "nand",
        "sums", "su", "firstsum", "\n", "x" * 5000,
        (), (None,), (0,), (1,), (True, True), ("sum",), ("and", "or"), (("first",),), ((), ()), (1, 2, 3),
        [], [0], [1], [1, 1], ["sum"], [[]], ["first", "sum"], [[1, 2], {}], ([],), ({},), ([1], {1: 2}),
        {}, {"sum": 1}, {"first": "first"}, {0: 0}, {1: [2]}, {(1, 2): (3, {"a": [None]})},
        nested(list, 60), nested(tuple, 60), nested(dict, 60), nested(tuple, 60, "sum"), nested(tuple, 59, []),
    ]


def odd_integers():
    """Return integers that are no places of any shape."""
    return [-1, -2, -8, 8, 9, 255, 256, 2 ** 64, -2 ** 64, 10 ** 40, -10 ** 40]


def same(one, other):
    """Return whether two values are equal and of the same kinds throughout."""
    if type(one) is not type(other):
        return False
    if isinstance(one, (list, tuple)):
        return len(one) == len(other) and all(same(a, b) for a, b in zip(one, other))
    if isinstance(one, dict):
        return same(list(one.items()), list(other.items()))
    return one == other


def copied(value):
    """Return a copy of a value, to compare it with later."""
    return copy.deepcopy(value)


def scattered(many, below, seed=1):
    """Return many numbers below a bound that look random and are the same in each run."""
    numbers = []
    state = seed
    for _ in range(many):
        state = (state * 6364136223846793005 + 1442695040888963407) % 2 ** 64
        numbers.append((state >> 33) % below)
    return numbers


def scattered_table(shape, seed=1):
    """Return a table of a shape whose results look random."""
    width, inputs = shape
    return tuple(scattered(2 ** (width * inputs), 2 ** width, seed))
