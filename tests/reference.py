"""What sections 6 to 9 say, written apart from the package and as plainly as possible, to compare it with."""

import functools

from tests.values import SHAPES, nested, odd_integers, odd_values, scattered

BASES = {"any": {"and", "or", "xor", "not"}, "monotone": {"and", "or"}, "affine": {"xor", "not"}}
MOVES = {"": set(), " up": {"up"}, " down": {"down"}, " both": {"up", "down"}}

# From the name of a set to its instruction words.
SETS = {base + moves: BASES[base] | MOVES[moves] | {"const", "mask"} for base in BASES for moves in MOVES}
SETS["any up"] |= {"add", "sub", "mul"}
SETS["any both"] |= {"add", "sub", "mul"}
SETS["adding"] = {"const", "mask", "xor", "not", "up", "add", "sub"}
SETS["multiplying"] = SETS["adding"] | {"mul"}

UP_ALONE = ("any up", "monotone up", "affine up", "adding", "multiplying")
DOWN_ALONE = ("any down", "monotone down", "affine down")
BOTH = ("any both", "monotone both", "affine both")

# From an instruction word to the kinds of its operands: v for the number of a value, w for a word.
FORMS = {
    "const": "w", "mask": "vw", "not": "v", "up": "v", "down": "v",
    "and": "vv", "or": "vv", "xor": "vv", "add": "vv", "sub": "vv", "mul": "vv",
}

# From an instruction word to its result, from a width and what the operands stand for.
RESULTS = {
    "const": lambda width, c: c,
    "mask": lambda width, a, c: sum(2 ** p for p in range(width) if a // 2 ** p % 2 and c // 2 ** p % 2),
    "not": lambda width, a: 2 ** width - 1 - a,
    "up": lambda width, a: 2 * a % 2 ** width,
    "down": lambda width, a: a // 2,
    "and": lambda width, a, b: sum(2 ** p for p in range(width) if a // 2 ** p % 2 + b // 2 ** p % 2 == 2),
    "or": lambda width, a, b: sum(2 ** p for p in range(width) if a // 2 ** p % 2 + b // 2 ** p % 2 > 0),
    "xor": lambda width, a, b: sum(2 ** p for p in range(width) if a // 2 ** p % 2 + b // 2 ** p % 2 == 1),
    "add": lambda width, a, b: (a + b) % 2 ** width,
    "sub": lambda width, a, b: (a - b) % 2 ** width,
    "mul": lambda width, a, b: a * b % 2 ** width,
}


def no_set_names():
    """Return new values of every kind that are no names of sets."""
    near = [
        "any ", " any", "any  up", "any-up", "any_up", "anyup", "Any", "ANY", "up any", "any sideways", "an",
        "adding up", "multiplying both", "adding down", "affine bot", "affine boths", "monotone\n", "both", "down",
        "const", "mul",
        ["adding"], ("adding",), {"adding": "adding"}, ("any", "up"), ["any", "up"], [("any",)],
        nested(list, 60, "any"), nested(tuple, 60, "any"), nested(dict, 60, "any"),
    ]
    return [value for value in odd_values() if value != "adding"] + odd_integers() + [0, 1, 14] + near


def no_places(shape):
    """Return new values of every kind that are no places of a shape."""
    near = [shape[0], shape[0] + 1, shape[0] * shape[1] + 1, (0,), [0], {0: 0}, "0", "any"]
    return near + odd_integers() + odd_values()


def may_count(name, place, start):
    """Return whether an input bit at a start may count for a set and a place."""
    if name in BOTH:
        return True
    if name in UP_ALONE:
        return 0 <= start <= place
    if name in DOWN_ALONE:
        return start >= place
    return start == place


@functools.lru_cache
def numbers_within(size):
    """Return for each number below a size the numbers within it: those that have no bit that it does not have."""
    return tuple(tuple(n for n in range(m + 1) if n | m == m) for m in range(size))


class Facts:
    """What is to be known of one result bit: on which bits it depends, whether it falls, and its terms."""

    def __init__(self, shape, table, place):
        self.width, self.inputs = shape
        self.place = place
        bits = self.width * self.inputs
        self.row = [result // 2 ** place % 2 for result in table]
        size = len(self.row)
        self.counting = [bit for bit in range(bits) if any(self.row[n] != self.row[n ^ 2 ** bit] for n in range(size))]
        within = numbers_within(size)
        self.falls = any(self.row[n] > self.row[m] for m in range(size) for n in within[m])
        self.terms = [m for m in range(size) if sum(self.row[n] for n in within[m]) % 2 == 1]

    def places(self, term):
        """Return the places of the bits of a term."""
        return [bit % self.width for bit in range(self.width * self.inputs) if term // 2 ** bit % 2]

    def term_fits(self, name, term):
        """Return whether a term fits a set by itself."""
        places = self.places(term)
        if name.startswith("affine"):
            return len(places) <= 1
        if name == "adding":
            return sum(2 ** p for p in places) <= 2 ** self.place
        if name == "multiplying" and self.place == 0:
            return all(p == 0 for p in places)
        if name == "multiplying":
            return sum(2 ** p for p in places if p != 0) <= 2 ** self.place
        return True

    def fits(self, name):
        """Return whether the result bit fits a set."""
        if not all(may_count(name, self.place, bit % self.width) for bit in self.counting):
            return False
        if name.startswith("monotone"):
            return not self.falls
        return all(self.term_fits(name, term) for term in self.terms)


def is_whole(value):
    """Return whether a value is an integer and no boolean."""
    return type(value) is int


def is_evidence(name, shape, table, value):
    """Return whether a value is evidence against a set, as section 8 says."""
    if type(value) is not tuple or len(value) < 3 or type(value[0]) is not str:
        return False
    kind, place, *numbers = value
    wanted = {"apart": 2, "falls": 2, "four": 3, "heavy": 1}
    if kind not in wanted or wanted[kind] != len(numbers):
        return False
    if not is_whole(place) or place not in range(shape[0]):
        return False
    if not all(is_whole(number) and number in range(len(table)) for number in numbers):
        return False
    bit = {number: result // 2 ** place % 2 for number, result in enumerate(table)}
    if kind == "apart":
        first, second = numbers
        equal = all(
            first // 2 ** b % 2 == second // 2 ** b % 2
            for b in range(shape[0] * shape[1]) if may_count(name, place, b % shape[0])
        )
        return equal and bit[first] != bit[second]
    if kind == "falls":
        first, second = numbers
        return name.startswith("monotone") and first | second == second and (bit[first], bit[second]) == (1, 0)
    if kind == "four":
        first, second, third = numbers
        odd = (bit[first] + bit[second] + bit[third] + bit[first ^ second ^ third]) % 2 == 1
        return name.startswith("affine") and odd
    facts = Facts(shape, table, place)
    return name in ("adding", "multiplying") and not facts.term_fits(name, numbers[0]) and numbers[0] in facts.terms


def is_step(shape, index, step):
    """Return whether a value is the instruction of a program at an index."""
    if type(step) is not tuple or step == () or type(step[0]) is not str or step[0] not in FORMS:
        return False
    form = FORMS[step[0]]
    if len(step) != 1 + len(form):
        return False
    return all(
        is_whole(operand) and operand in range(shape[1] + index if kind == "v" else 2 ** shape[0])
        for kind, operand in zip(form, step[1:])
    )


def is_program(shape, value):
    """Return whether a value is a program, as section 9 says."""
    if type(value) is not tuple or value == ():
        return False
    return all(is_step(shape, index, step) for index, step in enumerate(value))


def all_values(shape, program, words):
    """Return the list of all values of a program."""
    values = list(words)
    for word, *operands in program:
        known = [values[operand] if kind == "v" else operand for kind, operand in zip(FORMS[word], operands)]
        values.append(RESULTS[word](shape[0], *known))
    return values


def all_words(shape):
    """Return all tuples of words of a shape, in the order of their input numbers."""
    width, inputs = shape
    return [
        tuple(number // 2 ** (k * width) % 2 ** width for k in range(inputs)) for number in range(2 ** (width * inputs))
    ]


def drawn_program(words, shape, many, seed):
    """Return a program of many instructions with some of the words that looks random; late values come often."""
    words = sorted(words)
    numbers = scattered(4 * many, 2 ** 31, seed)
    steps = []
    for k in range(many):
        word = words[numbers[4 * k] % len(words)]
        known = shape[1] + k
        late = min(known, 4 + numbers[4 * k + 3] % known)
        operands = []
        for kind, number in zip(FORMS[word], numbers[4 * k + 1:4 * k + 3]):
            operands.append(known - 1 - number % late if kind == "v" else number % 2 ** shape[0])
        steps.append((word, *operands))
    return tuple(steps)


def indicator(shape, number):
    """Return a program whose result is 1 for one input number and 0 for all other ones."""
    width, inputs = shape
    steps = []

    def step(*parts):
        """Append an instruction and return the number of its value."""
        steps.append(parts)
        return inputs + len(steps) - 1

    alike = step("const", 2 ** width - 1)
    for k in range(inputs):
        wanted = step("const", number // 2 ** (k * width) % 2 ** width)
        alike = step("and", alike, step("not", step("xor", k, wanted)))
    moved = alike
    for _ in range(width - 1):
        moved = step("down", moved)
        alike = step("and", alike, moved)
    step("mask", alike, 1)
    return tuple(steps)


def table_of_terms(shape, rows):
    """Return the table whose result bit at each place is the sum of the terms in the place's row."""
    size = 2 ** (shape[0] * shape[1])
    return tuple(
        sum(2 ** place for place, row in enumerate(rows) if sum(1 for t in row if t | number == number) % 2)
        for number in range(size)
    )


SMALL_SHAPES = tuple(shape for shape in SHAPES if shape[0] * shape[1] <= 6)
