"""Programs, tables and evidence as texts, and back."""

from wordreach.errors import ParseError
from wordreach.programs import is_instruction
from wordreach.tables import is_word, table_size

# Longer numbers are neither words nor numbers of values, and no number of a command has more digits.
MOST_DIGITS = 10


def format_parts(parts):
    """Return the text of some words and numbers."""
    return " ".join([str(part) for part in parts])


def format_program(program):
    """Return the text of a program: a line for each instruction."""
    return "\n".join([format_parts(step) for step in program])


def format_table(table):
    """Return the text of a table."""
    return format_parts(table)


def format_evidence(evidence):
    """Return the text of evidence."""
    return format_parts(evidence)


def number_from(text):
    """Return the number that a text is, None if it is none, has leading zeros or is too long."""
    if not text.isascii() or not text.isdigit() or len(text) > MOST_DIGITS:
        return None
    if text[0] == "0" and len(text) > 1:
        return None
    return int(text)


def step_from(line):
    """Return what a line says as an instruction, with None for each operand that is no number."""
    word, *parts = line.split(" ")
    operands = [number_from(part) for part in parts]
    return (word, *operands)


def parse_program(shape, text):
    """Return the program that a text is; raise ParseError with the index of the first wrong line."""
    if not isinstance(text, str):
        raise ParseError(0)
    steps = []
    for index, line in enumerate(text.split("\n")):
        step = step_from(line)
        if not is_instruction(shape, shape[1] + index, step):
            raise ParseError(index)
        steps.append(step)
    return tuple(steps)


def parse_table(shape, text):
    """Return the table that a text is; raise ParseError with the index of the first wrong word."""
    if not isinstance(text, str):
        raise ParseError(0)
    size = table_size(shape)
    results = [number_from(word) for word in text.split(" ")]
    for index, result in enumerate(results):
        if index == size or not is_word(shape, result):
            raise ParseError(index)
    if len(results) < size:
        raise ParseError(len(results))
    return tuple(results)
