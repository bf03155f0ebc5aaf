"""Sessions: a program built by commands, one change after the other."""

from wordreach.building import program_for
from wordreach.errors import (
    CommandError, EmptyProgram, Full, InvalidOperand, InvalidShape, NothingToUndo, ReachError, UnknownName,
)
from wordreach.evidence import evidence_against
from wordreach.formats import format_evidence, format_program, format_table, number_from
from wordreach.judging import given_bits, sets_for
from wordreach.programs import OPERANDS, is_operand, table_of, values_of
from wordreach.sets import set_names
from wordreach.tables import is_shape, known_table
from wordreach.trimming import trimmed

# How many words stand behind the first one of each command that takes no numbers.
NAMES = {"undo": 0, "show": 0, "table": 0, "sets": 0, "bits": 1, "why": 1, "trim": 0, "load": 2}


def are_numbers(parts):
    """Return whether all parts of a command are numbers."""
    return all([number_from(part) is not None for part in parts])


def has_form(parts):
    """Return whether the parts of a command have one of the known forms."""
    word, *rest = parts
    if word in NAMES:
        return len(rest) == NAMES[word] and "" not in rest
    if word in OPERANDS:
        return len(rest) == len(OPERANDS[word]) and are_numbers(rest)
    return word == "call" and len(rest) > 0 and are_numbers(rest)


def set_for(word):
    """Return the name of the set that a word of a command stands for; raise UnknownName."""
    name = word.replace("-", " ")
    if name not in set_names():
        raise UnknownName(word)
    return name


class Session:
    """A program of a shape that commands build, with all that is to be taken back."""

    def __init__(self, shape, *, most=400):
        if not is_shape(shape):
            raise InvalidShape(shape)
        self._shape = shape
        self._most = most
        self._program = ()
        # The program before each change that was not taken back.
        self._earlier = []
        self._commands = []

    @property
    def shape(self):
        """The shape of the words."""
        return self._shape

    @property
    def program(self):
        """The program so far, () if there is none yet."""
        return self._program

    def run(self, command):
        """Carry out a command and return the answer; raise CommandError and what the command leads to."""
        if not isinstance(command, str):
            raise CommandError(command)
        try:
            answer = self.answer_to(command)
        except ReachError:
            self._commands.append((command, False))
            raise
        self._commands.append((command, True))
        return answer

    def history(self):
        """Return the commands so far, each with whether it was carried out."""
        return tuple(self._commands)

    def answer_to(self, command):
        """Carry out a command and return the answer."""
        parts = command.split(" ")
        if not has_form(parts):
            raise CommandError(command)
        word, *rest = parts
        if word in OPERANDS:
            return self.add_step(word, [number_from(part) for part in rest])
        if word == "undo":
            return self.take_back()
        if word == "show":
            return self.shown()
        if word == "load":
            return self.load(rest[0], rest[1])
        if len(self._program) == 0:
            raise EmptyProgram()
        if word == "trim":
            return self.change_to(trimmed(self._program, inputs=self._shape[1]))
        if word == "call":
            words = tuple([number_from(part) for part in rest])
            return str(values_of(self._shape, self._program, words)[-1])
        return self.told(word, rest)

    def told(self, word, rest):
        """Return the answer to a command that asks for the table or judges it."""
        shape = self._shape
        table = table_of(shape, self._program)
        if word == "table":
            return format_table(table)
        if word == "sets":
            return " ".join([name.replace(" ", "-") for name in sets_for(shape, table)])
        name = set_for(rest[0])
        if word == "bits":
            return str(given_bits(name, shape, table))
        evidence = evidence_against(name, shape, table)
        return "none" if evidence is None else format_evidence(evidence)

    def shown(self):
        """Return the text of the program in one line."""
        if len(self._program) == 0:
            return "-"
        return format_program(self._program).replace("\n", " / ")

    def change_to(self, program):
        """Put another program in the place of the one so far."""
        self._earlier.append(self._program)
        self._program = program
        return "done"

    def take_back(self):
        """Take back the last change that was not taken back; raise NothingToUndo."""
        if len(self._earlier) == 0:
            raise NothingToUndo()
        self._program = self._earlier.pop()
        return "done"

    def add_step(self, word, operands):
        """Append an instruction and return the number of its value; raise InvalidOperand or Full."""
        known = self._shape[1] + len(self._program)
        for kind, operand in zip(OPERANDS[word], operands):
            if not is_operand(self._shape, known, kind, operand):
                raise InvalidOperand(operand)
        if len(self._program) == self._most:
            raise Full(self._most)
        self.change_to(self._program + ((word, *operands),))
        return str(known)

    def load(self, set_word, known):
        """Take a program of a set for a known function; raise UnknownName, NotComputed or Full."""
        name = set_for(set_word)
        program = program_for(name, self._shape, known_table(self._shape, known))
        if len(program) > self._most:
            raise Full(self._most)
        self.change_to(program)
        return str(len(program))
