"""The fourteen instruction sets and their instructions."""

from wordreach.errors import UnknownName

# All instruction words of each set, ascending.
SETS = {
    "any": ("and", "const", "mask", "not", "or", "xor"),
    "any up": ("add", "and", "const", "mask", "mul", "not", "or", "sub", "up", "xor"),
    "any down": ("and", "const", "down", "mask", "not", "or", "xor"),
    "any both": ("add", "and", "const", "down", "mask", "mul", "not", "or", "sub", "up", "xor"),
    "monotone": ("and", "const", "mask", "or"),
    "monotone up": ("and", "const", "mask", "or", "up"),
    "monotone down": ("and", "const", "down", "mask", "or"),
    "monotone both": ("and", "const", "down", "mask", "or", "up"),
    "affine": ("const", "mask", "not", "xor"),
    "affine up": ("const", "mask", "not", "up", "xor"),
    "affine down": ("const", "down", "mask", "not", "xor"),
    "affine both": ("const", "down", "mask", "not", "up", "xor"),
    "adding": ("add", "const", "mask", "not", "sub", "up", "xor"),
    "multiplying": ("add", "const", "mask", "mul", "not", "sub", "up", "xor"),
}


def check_name(value):
    """Raise UnknownName unless a value is the name of a set."""
    # A list or a dict cannot be looked up in a dict, so the kind of the value is asked first.
    if not isinstance(value, str) or value not in SETS:
        raise UnknownName(value)


def set_names():
    """Return the ascending tuple of the names of all sets."""
    return tuple(sorted(SETS))


def instructions_of(name):
    """Return the ascending tuple of all instruction words of a set; raise UnknownName for no set."""
    check_name(name)
    return SETS[name]


def is_within(name, other):
    """Return whether the second set has all instructions of the first one."""
    inner = instructions_of(name)
    outer = instructions_of(other)
    return all([word in outer for word in inner])


def family_of(name):
    """Return the name of a set without its moves: any, monotone, affine, adding or multiplying."""
    return name.partition(" ")[0]
