"""Changing programs: leaving instructions out, narrowing them, running one behind the other."""

from wordreach.errors import HasDown
from wordreach.programs import OPERANDS


def values_in(step):
    """Return the numbers of the values that an instruction takes."""
    return [operand for kind, operand in zip(OPERANDS[step[0]], step[1:]) if kind == "value"]


def renumbered(step, numbers):
    """Return an instruction with each number of a value replaced by the one that stands at it in a list."""
    kinds = OPERANDS[step[0]]
    operands = [numbers[operand] if kind == "value" else operand for kind, operand in zip(kinds, step[1:])]
    return (step[0], *operands)


def needed_values(program, inputs):
    """Return for each value of a program whether its last value depends on it."""
    needed = [False] * (inputs + len(program))
    needed[inputs + len(program) - 1] = True
    # Operands are earlier values, so each instruction is decided before those that it depends on.
    for index in reversed(range(len(program))):
        if needed[inputs + index]:
            for operand in values_in(program[index]):
                needed[operand] = True
    return needed


def trimmed(program, *, inputs):
    """Return a program without the instructions on which its last value does not depend."""
    needed = needed_values(program, inputs)
    numbers = list(range(inputs))
    steps = []
    for index, step in enumerate(program):
        # The number of a value that is left out is never asked for.
        numbers.append(inputs + len(steps))
        if needed[inputs + index]:
            steps.append(renumbered(step, numbers))
    return tuple(steps)


def numbered(program, *, inputs):
    """Return a program without instructions equal to an earlier one; the last one is always kept."""
    numbers = list(range(inputs))
    steps = []
    known = {}
    for index, step in enumerate(program):
        same = renumbered(step, numbers)
        if same not in known or index == len(program) - 1:
            known[same] = inputs + len(steps)
            steps.append(same)
        numbers.append(known[same])
    return tuple(steps)


def narrowed_step(step, greatest):
    """Return an instruction with its word, if it has one, cut to the bits of the greatest word."""
    kinds = OPERANDS[step[0]]
    operands = [operand & greatest if kind == "word" else operand for kind, operand in zip(kinds, step[1:])]
    return (step[0], *operands)


def narrowed(program, width):
    """Return a program for words of fewer bits; raise HasDown if it moves bits down."""
    for index, step in enumerate(program):
        if step[0] == "down":
            raise HasDown(index)
    return tuple([narrowed_step(step, (1 << width) - 1) for step in program])


def chained(first, second, *, inputs):
    """Return the program that runs one program, then another one with its result as the first word."""
    numbers = list(range(inputs + len(second)))
    for number in range(inputs, inputs + len(second)):
        numbers[number] = number + len(first)
    numbers[0] = inputs + len(first) - 1
    return first + tuple([renumbered(step, numbers) for step in second])
