"""Section 16: sessions; and what guarantee (f) says of them."""

import re
import unittest

from tests.drawn import KNOWN, NAMES
from tests.reference import FORMS, SETS, drawn_program, is_evidence, is_program
from tests.values import SHAPES, copied, nested, odd_integers, odd_values, same, scattered
from wordreach import errors
from wordreach.building import program_for
from wordreach.errors import (
    CommandError, EmptyProgram, Full, InvalidOperand, InvalidShape, InvalidWords, NotComputed, NothingToUndo,
    UnknownName,
)
from wordreach.evidence import evidence_against
from wordreach.formats import format_program, format_table
from wordreach.judging import computes, given_bits, sets_for
from wordreach.programs import run, table_of
from wordreach.session import Session
from wordreach.tables import is_shape, known_table
from wordreach.trimming import trimmed

NUMBER = re.compile("0|[1-9][0-9]{0,9}")
EVERY_WORD = SETS["any both"]
SET_WORDS = {name.replace(" ", "-"): name for name in NAMES}


def dashed(name):
    """Return the name of a set as a command has it."""
    return name.replace(" ", "-")


def lines_of(program):
    """Return the commands for the instructions of a program."""
    return format_program(program).split("\n")


def has_form(parts):
    """Return whether the parts of a command have one of the forms of section 16."""
    word, rest = parts[0], parts[1:]
    if "" in parts:
        return False
    if word in FORMS or word == "call":
        many = len(FORMS[word]) if word in FORMS else max(1, len(rest))
        return len(rest) == many and all(NUMBER.fullmatch(part) for part in rest)
    return (word, len(rest)) in (
        ("undo", 0), ("show", 0), ("table", 0), ("sets", 0), ("trim", 0), ("bits", 1), ("why", 1), ("load", 2),
    )


class Model:
    """What section 16 says of a session, with the functions of the other sections."""

    def __init__(self, shape, most=400):
        self.shape = shape
        self.most = most
        self.states = [()]
        self.told = []

    @property
    def program(self):
        """The program so far."""
        return self.states[-1]

    def wanted(self, command):
        """Return the name of the error that a command must raise and its value, or None and what must be answered.

        The answer None stands for any answer of `load`, and of `why` where there is evidence.
        """
        if type(command) is not str:
            return "CommandError", command
        parts = command.split(" ")
        if not has_form(parts):
            return "CommandError", command
        word, rest = parts[0], parts[1:]
        if word in FORMS:
            return self.wanted_step(word, [int(part) for part in rest])
        if word == "undo":
            return (None, "done") if len(self.states) > 1 else ("NothingToUndo", None)
        if word == "show":
            return None, " / ".join(lines_of(self.program)) if self.program else "-"
        if word == "load":
            return self.wanted_load(*rest)
        if not self.program:
            return "EmptyProgram", None
        if word == "call":
            return self.wanted_call(tuple(int(part) for part in rest))
        table = table_of(self.shape, self.program)
        if word in ("bits", "why") and rest[0] not in SET_WORDS:
            return "UnknownName", rest[0]
        answers = {
            "trim": lambda: "done",
            "table": lambda: format_table(table),
            "sets": lambda: " ".join(dashed(name) for name in sets_for(self.shape, table)),
            "bits": lambda: str(given_bits(SET_WORDS[rest[0]], self.shape, table)),
            "why": lambda: "none" if computes(SET_WORDS[rest[0]], self.shape, table) else None,
        }
        return None, answers[word]()

    def wanted_step(self, word, numbers):
        """Return what an instruction must lead to."""
        known = self.shape[1] + len(self.program)
        for kind, number in zip(FORMS[word], numbers):
            if number >= (known if kind == "v" else 2 ** self.shape[0]):
                return "InvalidOperand", number
        return ("Full", self.most) if len(self.program) == self.most else (None, str(known))

    def wanted_call(self, words):
        """Return what a call must lead to."""
        if len(words) != self.shape[1] or max(words) >= 2 ** self.shape[0]:
            return "InvalidWords", words
        return None, str(run(self.shape, self.program, words))

    def wanted_load(self, set_word, known):
        """Return what a load must lead to, but for its room."""
        if set_word not in SET_WORDS:
            return "UnknownName", set_word
        if known not in KNOWN:
            return "UnknownName", known
        bits = given_bits(SET_WORDS[set_word], self.shape, known_table(self.shape, known))
        for place in range(self.shape[0]):
            if not bits >> place & 1:
                return "NotComputed", place
        return None, None

    def carried_out(self, command, program):
        """Take over what a command changes; a loaded program is taken from the session."""
        word = command.split(" ")[0]
        if word in FORMS:
            name, *operands = command.split(" ")
            self.states.append(self.program + ((name, *map(int, operands)),))
        elif word == "trim":
            self.states.append(trimmed(self.program, inputs=self.shape[1]))
        elif word == "load":
            self.states.append(program)
        elif word == "undo":
            self.states.pop()


class Modelled(unittest.TestCase):
    def begin(self, shape, most=400):
        """Begin a session and its model."""
        self.model = Model(shape, most)
        self.session = Session(shape, most=most)
        return self.session

    def give(self, command):
        """Give a command to the session and compare what it does with the model. Return the answer or the error."""
        session, model = self.session, self.model
        before = (session.program, session.history(), copied(command))
        error, value = model.wanted(command)
        try:
            found = session.run(command)
        except errors.ReachError as raised:
            found = raised
        if error is None and isinstance(found, Full) and command.startswith("load"):
            self.check_no_room(command)
            error, value = "Full", model.most
        if error is not None:
            self.assertEqual(type(found).__name__, error, (command, value, found))
            kept = list(vars(found).values())
            self.assertTrue(same(kept, [] if error in ("EmptyProgram", "NothingToUndo") else [value]), (command, kept))
        else:
            self.assertIs(type(found), str, command)
            self.check_answer(command, found, value)
            model.carried_out(command, session.program)
        if type(command) is str:
            model.told.append((command, error is None))
        self.assertTrue(same(command, before[2]))
        self.assertTrue(same(session.program, model.program), (command, before[0], session.program))
        self.assertTrue(same(session.history(), tuple(model.told)))
        self.assertEqual(before[1], session.history()[:len(before[1])])
        self.assertTrue(same(session.shape, model.shape))
        return found

    def check_no_room(self, command):
        """Check that a program that is to be loaded does not have to fit: no program of one instruction is known."""
        word, set_word, known = command.split(" ")
        program = program_for(SET_WORDS[set_word], self.model.shape, known_table(self.model.shape, known))
        self.assertLess(self.model.most, len(program))

    def check_answer(self, command, found, wanted):
        """Check the answer to a command that was carried out."""
        shape = self.model.shape
        word, *rest = command.split(" ")
        if word == "load":
            program = self.session.program
            self.assertEqual(found, str(len(program)))
            self.assertIs(is_program(shape, program), True)
            self.assertLessEqual(len(program), self.model.most)
            self.assertTrue({step[0] for step in program} <= SETS[SET_WORDS[rest[0]]])
            self.assertEqual(table_of(shape, program), known_table(shape, rest[1]))
        elif wanted is None:
            kind, *numbers = found.split(" ")
            table = table_of(shape, self.model.program)
            evidence = (kind, *map(int, numbers))
            self.assertEqual(" ".join(map(str, evidence)), found)
            self.assertIs(is_evidence(SET_WORDS[rest[0]], shape, table, evidence), True)
        else:
            self.assertEqual(found, wanted, command)

    def give_all(self, commands):
        """Give several commands. Return the answers and errors."""
        return [self.give(command) for command in commands]

    def take_all_back(self):
        """Take back each change, step by step, and one more."""
        while len(self.model.states) > 1:
            before = self.model.states[-2]
            self.assertEqual(self.give("undo"), "done")
            self.assertTrue(same(self.session.program, before))
        self.assertEqual(self.session.program, ())
        self.assertIsInstance(self.give("undo"), NothingToUndo)


class Beginning(Modelled):
    def test_empty(self):
        for shape in SHAPES:
            for most in (1, 2, 399, 400):
                session = self.begin(shape, most)
                self.assertTrue(same(session.program, ()))
                self.assertTrue(same(session.shape, shape))
                self.assertTrue(same(session.history(), ()))
                self.assertEqual(self.give("show"), "-")
                self.assertIsInstance(self.give("undo"), NothingToUndo)

    def test_no_shapes(self):
        values = odd_values() + odd_integers() + [(0, 1), (1, 0), (9, 1), (3, 3), (1, 5), (2, 5), (True, 1), (1, True)]
        values += [[2, 2], "22", (2, 2, 2), (2,), {2: 2}, ("2", 2), (-1, 1), (1, -1), (8, 2), nested(tuple, 60, (2, 2))]
        for value in values:
            if not is_shape(value):
                before = copied(value)
                for call in (lambda: Session(value), lambda: Session(value, most=5), lambda: Session(shape=value)):
                    with self.assertRaises(InvalidShape) as caught:
                        call()
                    self.assertIs(caught.exception.value, value)
                    self.assertTrue(same(value, before))

    def test_read_only(self):
        session = Session((2, 2))
        for name in ("shape", "program"):
            self.assertIsInstance(vars(Session)[name], property)
            with self.assertRaises(AttributeError):
                setattr(session, name, ())
        for name in ("run", "history"):
            self.assertIn(name, vars(Session))

    def test_most_by_name_alone(self):
        self.assertRaises(TypeError, Session, (2, 2), 5)


class Commands(Modelled):
    def test_each_command(self):
        for shape in SHAPES:
            self.begin(shape)
            for command in ("table", "sets", "trim", "call 0", "bits any", "why any", "show"):
                self.give(command)
            for program in (drawn_program(EVERY_WORD, shape, 6, 3), drawn_program(SETS["adding"], shape, 4, 1)):
                for line in lines_of(program):
                    self.give(line)
                for word in sorted(SET_WORDS):
                    self.give(f"bits {word}")
                    self.give(f"why {word}")
                top = 2 ** shape[0] - 1
                self.give_all(["show", "table", "sets", "call" + " 0" * shape[1], "call" + f" {top}" * shape[1]])
                self.give_all(["trim", "show", "table", "undo", "show"])
            self.take_all_back()

    def test_each_instruction(self):
        for shape in ((1, 1), (2, 2), (8, 1), (1, 4)):
            self.begin(shape)
            for k, (word, form) in enumerate(FORMS.items()):
                operands = ["0" if kind == "v" else str(2 ** shape[0] - 1) for kind in form]
                self.assertEqual(self.give(" ".join([word] + operands)), str(shape[1] + k))
            self.assertEqual([step[0] for step in self.session.program], list(FORMS))
            self.take_all_back()

    def test_all_words(self):
        self.begin((2, 2))
        self.give_all(["mul 0 1", "down 2", "xor 3 0"])
        for one in range(5):
            for other in range(5):
                self.give(f"call {one} {other}")

    def test_evidence_and_bits(self):
        for shape in ((2, 2), (3, 1), (1, 4), (4, 2)):
            for known in KNOWN:
                self.begin(shape)
                self.give(f"load any-both {known}")
                for word in sorted(SET_WORDS):
                    self.give(f"bits {word}")
                    self.give(f"why {word}")
                self.give("sets")
                self.give("table")

    def test_loads(self):
        for shape in ((1, 1), (1, 4), (2, 2), (3, 1), (8, 1)):
            self.begin(shape)
            for word in sorted(SET_WORDS):
                for known in KNOWN:
                    self.give(f"load {word} {known}")
            self.take_all_back()

    def test_loads_of_eight_bits(self):
        # All known functions have room in a session of 400 instructions.
        for shape in ((4, 2), (2, 4)):
            self.begin(shape)
            for known in KNOWN:
                self.assertIs(type(self.give(f"load any-both {known}")), str)
                self.give(f"load multiplying {known}")
                self.give(f"load monotone-both {known}")

    def test_answers_are_those_of_the_functions(self):
        session = Session((3, 2))
        program = drawn_program(SETS["multiplying"], (3, 2), 12, 6)
        for line in lines_of(program):
            session.run(line)
        table = table_of((3, 2), program)
        self.assertEqual(session.program, program)
        self.assertEqual(session.run("table"), " ".join(map(str, table)))
        self.assertEqual(session.run("call 5 2"), str(run((3, 2), program, (5, 2))))
        self.assertEqual(session.run("sets").split(" "), [dashed(name) for name in sets_for((3, 2), table)])
        for name in NAMES:
            self.assertEqual(session.run(f"bits {dashed(name)}"), str(given_bits(name, (3, 2), table)))
            answer = session.run(f"why {dashed(name)}")
            self.assertEqual(answer == "none", evidence_against(name, (3, 2), table) is None)


class CommandErrors(Modelled):
    def refused(self, commands):
        """Check that commands have none of the forms, in a new session and in one with a program."""
        for shape in ((2, 2), (8, 1)):
            self.begin(shape)
            for start in ("show", "add 0 0", "not 0"):
                self.give(start)
                for command in commands:
                    self.assertIsInstance(self.give(command), CommandError, command)
            self.take_all_back()

    def test_words_too_many_or_too_few(self):
        commands = ["undo 1", "undo undo", "show all", "table 0", "sets any", "trim 1", "bits", "why", "load"]
        commands += ["load any", "bits any up", "why any up", "bits any sum", "load any up sum", "load any sum sum"]
        commands.append("call")
        commands += [" ".join([word] + ["0"] * many) for word in FORMS for many in range(5) if many != len(FORMS[word])]
        self.refused(commands)

    def test_empty_words(self):
        commands = ["", " ", "  ", "show ", " show", " undo", "undo ", "bits ", "bits  any", "load any "]
        commands += ["load  any sum", "load any  sum", "up ", "up  0", " up 0", "up 0 ", "add 0  0", "call "]
        commands += ["call  0 0", "call 0  0"]
        self.refused(commands + ["call 0 0 ", " call 0 0", "why any ", "load any sum ", "trim "])

    def test_numbers(self):
        numbers = ["00", "01", "+0", "-0", "-1", "+1", "1.0", "1_0", "0x0", "a", "True", "1e0", "0\n", "1,", "\n"]
        numbers += ["\u0661", "\u00b9", "\uff11", "12345678901", "10000000000"]
        numbers += ["0" * 11, "9" * 11, "1" * 40, "1" * 4301, "1" * 10000]
        commands = []
        for number in numbers:
            commands += [f"up {number}", f"add {number} 0", f"add 0 {number}", f"const {number}", f"mask 0 {number}"]
            commands += [f"call {number} 0", f"call 0 {number}", f"call {number}", f"mask {number} 0"]
        self.refused(commands)

    def test_other_words(self):
        self.refused([
            "help", "Undo", "UNDO", "undo\n", "\nundo", "show\t", "tables", "set", "run", "0", "0 0", "nor 0 0", "up0",
            "add 0,0", "add\t0 0", "add 0\t0", "up 0\nup 0", "load\tany sum", "bits\tany", "-", "quit", "call\t0",
            "none", "history", "any", "sum", "adding", "\x00", "undo;", "up\u00a00", "bits\u00a0any",
        ])

    def test_numbers_of_ten_digits(self):
        self.begin((2, 2))
        for number in (9999999999, 1000000000, 1234567890, 4, 5):
            for form in ("up N", "const N", "mask 0 N", "add 0 N", "add N 0"):
                self.assertIsInstance(self.give(form.replace("N", str(number))), InvalidOperand, form)
        self.assertEqual(self.give("up 0"), "2")
        self.assertIsInstance(self.give("call 9999999999 0"), InvalidWords)

    def test_no_strings(self):
        self.begin((2, 2))
        self.give("up 0")
        for value in odd_values() + odd_integers() + [0, 1, ["undo"], ("undo",), {"undo": 1}, ("up", 0), [["up 0"]]]:
            history = self.session.history()
            with self.subTest(value=value):
                found = self.give(value)
                self.assertIsInstance(found, CommandError)
                self.assertIs(found.command, value)
                if type(value) is not str:
                    self.assertTrue(same(self.session.history(), history))


class Errors(Modelled):
    def test_operands(self):
        for shape in SHAPES:
            self.begin(shape)
            for _ in range(3):
                known = shape[1] + len(self.session.program)
                top = 2 ** shape[0]
                for word, form in FORMS.items():
                    edges = [known if kind == "v" else top for kind in form]
                    for first in (0, -1, 100):
                        for second in (0, -1, 100):
                            numbers = [edge + by if by else 0 for edge, by in zip(edges, (first, second))]
                            refused = [edge + by for edge, by in zip(edges, (first, second)) if by == 100]
                            found = self.give(" ".join(map(str, [word, *numbers])))
                            if refused:
                                self.assertIsInstance(found, InvalidOperand)
                                self.assertTrue(same(found.value, refused[0]))
                            else:
                                self.assertEqual(found, str(known))
                                self.give("undo")
                    for at, edge in enumerate(edges):
                        numbers = [0] * len(edges)
                        numbers[at] = edge
                        self.assertIsInstance(self.give(" ".join(map(str, [word, *numbers]))), InvalidOperand)
                self.give("not 0")

    def test_empty_program(self):
        for shape in ((1, 1), (2, 2), (8, 1)):
            self.begin(shape)
            for command in ("table", "call 0", "call 9 9 9 9 9", "sets", "bits any", "bits none", "why \t", "trim"):
                self.assertIsInstance(self.give(command), EmptyProgram, command)
            self.give_all(["up 0", "undo"])
            for command in ("table", "call 0", "sets", "bits any-up", "bits ?", "why adding", "trim"):
                self.assertIsInstance(self.give(command), EmptyProgram, command)
            # `show` and `load` need no instruction.
            self.assertEqual(self.give("show"), "-")
            self.assertIs(type(self.give("load any first")), str)

    def test_invalid_words(self):
        self.begin((2, 2))
        self.give("add 0 1")
        for words in ((0,), (0, 0, 0), (4, 0), (0, 4), (4, 4), (9999999999, 0), (0,) * 9, (100,)):
            found = self.give("call " + " ".join(map(str, words)))
            self.assertIsInstance(found, InvalidWords)
            self.assertTrue(same(found.value, words))
        self.assertEqual(self.give("call 3 3"), "2")

    def test_unknown_names(self):
        unknown = ["Any", "any_up", "any-", "-any", "up", "any-up-", "any--up", "any-sideways", "none", "0", "x", "sum"]
        unknown += ["adding-up", "multiplying-both", "anyup", "any/up", "-", "--", "any\n", "\t", "\n", "\u00a0"]
        unknown += ["any\u00a0up"]
        self.begin((2, 2))
        self.give("add 0 1")
        for word in unknown:
            for command in (f"bits {word}", f"why {word}", f"load {word} sum", f"load {word} none"):
                found = self.give(command)
                self.assertIsInstance(found, UnknownName, command)
                self.assertEqual(found.value, word)
        for known in ("Sum", "sums", "any", "-", "0", "affine-up", "\n", "sum\n", "first-word", "add", "mul"):
            for word in ("any-both", "affine", "adding"):
                found = self.give(f"load {word} {known}")
                self.assertIsInstance(found, UnknownName)
                self.assertEqual(found.value, known)

    def test_not_computed(self):
        self.begin((2, 2), 1)
        for command, place in (
            ("load affine-up sum", 1), ("load monotone sum", 0), ("load any sum", 1), ("load adding product", 0),
            ("load any-down sum", 1), ("load affine and", 0),
        ):
            found = self.give(command)
            self.assertIsInstance(found, NotComputed)
            self.assertTrue(same(found.value, place), command)

    def test_full(self):
        for shape, most in (
            ((2, 2), 1), ((2, 2), 2), ((1, 1), 7), ((8, 1), 40), ((1, 4), 400), ((2, 2), 400), ((4, 2), 399),
        ):
            self.begin(shape, most)
            for line in lines_of(drawn_program(EVERY_WORD, shape, most, 5)):
                self.assertIs(type(self.give(line)), str)
            for command in ("up 0", "const 0", "mask 0 0", f"add 0 {most}"):
                found = self.give(command)
                self.assertIsInstance(found, Full)
                self.assertTrue(same(found.value, most))
            # What is wrong by itself is told first.
            self.assertIsInstance(self.give("up 9999"), InvalidOperand)
            self.assertIsInstance(self.give("const 256"), InvalidOperand)
            self.assertIsInstance(self.give("up"), CommandError)
            # The room comes back.
            self.give("undo")
            self.assertEqual(self.give("not 0"), str(shape[1] + most - 1))
            self.assertIsInstance(self.give("not 0"), Full)
            self.give("trim")
            for _ in range(most - len(self.session.program)):
                self.assertIs(type(self.give("not 0")), str)
            self.assertIsInstance(self.give("not 0"), Full)

    def test_room_for_loads(self):
        # Each of these takes more than one instruction, and none of them more than 400.
        for shape, set_word, known in (
            ((2, 4), "adding", "sum"), ((1, 4), "any", "or"), ((4, 1), "any-both", "reversed"),
            ((3, 1), "any-both", "ones"), ((2, 3), "affine", "xor"), ((1, 3), "monotone", "and"),
            ((2, 3), "multiplying", "product"),
        ):
            self.begin(shape, 400)
            many = int(self.give(f"load {set_word} {known}"))
            self.assertLess(1, many)
            for most in (1, many - 1, many, many + 1):
                self.begin(shape, most)
                self.give("not 0")
                found = self.give(f"load {set_word} {known}")
                if most < many:
                    self.assertIsInstance(found, Full)
                    self.assertTrue(same(found.value, most))
                    self.assertEqual(self.give("show"), "not 0")
                else:
                    self.assertEqual(found, str(many))
                    self.give_all(["not 0", "not 0"])
                self.take_all_back()

    def test_a_full_program_makes_room_for_a_load(self):
        self.begin((2, 2), 8)
        self.give_all(["not 0"] * 8)
        self.assertIsInstance(self.give("not 0"), Full)
        self.assertIs(type(self.give("load affine first")), str)
        self.give("undo")
        self.assertIsInstance(self.give("not 0"), Full)

    def test_the_order(self):
        self.begin((2, 2), 1)
        # An empty program: no instruction is asked for before the form is right; load asks for none.
        for command, error in (
            ("call -1", CommandError), ("bits", CommandError), ("call 9 9 9", EmptyProgram),
            ("bits nothing", EmptyProgram), ("load nothing nowhere", UnknownName), ("load adding nowhere", UnknownName),
            ("load adding product", NotComputed), ("load any-both ones", Full), ("up 2", InvalidOperand),
            ("mask 7 8", InvalidOperand), ("undo", NothingToUndo),
        ):
            self.assertIsInstance(self.give(command), error, command)
        self.assertEqual(self.session.run("const 1"), "2")
        with self.assertRaises(InvalidOperand) as caught:
            self.session.run("mask 7 8")
        self.assertEqual(caught.exception.value, 7)
        with self.assertRaises(InvalidOperand) as caught:
            self.session.run("mask 2 8")
        self.assertEqual(caught.exception.value, 8)
        with self.assertRaises(UnknownName) as caught:
            self.session.run("load nothing nowhere")
        self.assertEqual(caught.exception.value, "nothing")
        self.assertRaises(Full, self.session.run, "mask 2 3")


class Undo(Modelled):
    def test_behind_each_kind_of_change(self):
        for shape in ((2, 2), (1, 1), (4, 2)):
            self.begin(shape)
            self.give_all(["not 0", "up 0", "const 1", "trim", "trim", "load any first", "trim", "not 0"])
            self.give("load affine first")
            self.give_all(["trim", "trim", "undo", "up 0", "undo", "undo", "xor 0 0", "load any-both ones", "undo"])
            self.take_all_back()
            self.give_all(["up 0", "show"])
            self.take_all_back()

    def test_a_trim_that_changed_nothing(self):
        self.begin((2, 2))
        self.give_all(["up 0", "trim", "trim"])
        for _ in range(3):
            self.assertEqual(self.give("undo"), "done")
        self.assertIsInstance(self.give("undo"), NothingToUndo)

    def test_a_load_of_the_same_program(self):
        self.begin((2, 2))
        self.give_all(["load affine xor", "load affine xor", "undo", "show", "undo"])
        self.assertIsInstance(self.give("undo"), NothingToUndo)

    def test_what_is_refused_leaves_nothing_to_be_undone(self):
        self.begin((2, 2), 2)
        refused = [
            "up 7", "const 4", "foo", "undo 1", "load none sum", "load any none", "load adding product",
            "load any-both ones", "call 9 9", "bits none", "why none", "call", "",
        ]
        self.give_all(refused + ["trim", "table"])
        self.assertIsInstance(self.give("undo"), NothingToUndo)
        self.give("up 0")
        self.give_all(refused)
        self.give("not 0")
        self.give_all(refused + ["not 0"])
        self.assertEqual(self.give("show"), "up 0 / not 0")
        self.assertEqual(self.give("undo"), "done")
        self.assertEqual(self.give("show"), "up 0")
        self.take_all_back()

    def test_what_only_asks_leaves_nothing_to_be_undone(self):
        self.begin((2, 2))
        self.give_all(["up 0", "show", "table", "call 0 0", "sets", "bits any", "why any", "why affine"])
        self.give("undo")
        self.assertIsInstance(self.give("undo"), NothingToUndo)

    def test_trims(self):
        for shape in SHAPES:
            self.begin(shape)
            for line in lines_of(drawn_program(EVERY_WORD, shape, 20, 4)):
                self.give(line)
            self.give_all(["table", "trim", "table", "show", "trim", "show", "not 0", "trim", "show"])
            self.take_all_back()

    def test_asked_again_after_undo(self):
        # What a session answers depends on its program alone, whatever was undone before.
        self.begin((2, 2))
        asks = ["show", "table", "sets", "bits adding", "why monotone", "call 3 2"]
        self.give_all(["add 0 1", "mask 2 2"])
        answers = [self.session.run(ask) for ask in asks]
        self.session.run("load multiplying product")
        self.session.run("up 0")
        self.session.run("trim")
        for _ in range(3):
            self.session.run("undo")
        self.assertEqual([self.session.run(ask) for ask in asks], answers)
        other = Session((2, 2))
        other.run("add 0 1")
        other.run("mask 2 2")
        self.assertEqual([other.run(ask) for ask in asks], answers)


class Drawn(Modelled):
    def command(self, numbers, shape, known):
        """Return a command that looks random; most have a right form."""
        kind = numbers[0] % 12
        if kind < 5:
            word = sorted(FORMS)[numbers[1] % len(FORMS)]
            limits = [(known if form == "v" else 2 ** shape[0]) + (numbers[2] % 9 == 0) for form in FORMS[word]]
            return " ".join([word] + [str(number % limit) for number, limit in zip(numbers[3:], limits)])
        if kind == 5:
            return " ".join(["call"] + [str(number % 2 ** shape[0]) for number in numbers[3:3 + shape[1]]])
        sets = sorted(SET_WORDS) + ["none"]
        return (
            f"bits {sets[numbers[1] % 15]}", f"why {sets[numbers[2] % 15]}", "trim", "undo", "undo",
            f"load {sets[numbers[3] % 15]} {(KNOWN + ('nothing',))[numbers[4] % 11]}",
        )[kind - 6]

    def test_drawn_sessions(self):
        for shape in ((1, 1), (2, 2), (3, 1), (1, 4), (2, 3), (4, 2)):
            for most in (3, 12, 400):
                self.begin(shape, most)
                for k in range(80):
                    numbers = scattered(8, 2 ** 20, 1000 * k + most + shape[0])
                    self.give(self.command(numbers, shape, shape[1] + len(self.session.program)))
                self.give_all(["show", "table" if self.session.program else "show"])
                self.take_all_back()

    def test_four_hundred_instructions(self):
        for shape in ((2, 2), (8, 1)):
            session = Session(shape)
            program = drawn_program(EVERY_WORD, shape, 400, 8)
            for k, line in enumerate(lines_of(program)):
                self.assertEqual(session.run(line), str(shape[1] + k))
            self.assertTrue(same(session.program, program))
            self.assertRaises(Full, session.run, "not 0")
            self.assertEqual(session.run("show"), " / ".join(lines_of(program)))
            self.assertEqual(session.run("table"), format_table(table_of(shape, program)))
            self.assertEqual(session.run("trim"), "done")
            self.assertTrue(same(session.program, trimmed(program, inputs=shape[1])))
            for k in range(401):
                self.assertEqual(session.run("undo"), "done")
                self.assertTrue(same(session.program, program[:400 - k]))
            self.assertRaises(NothingToUndo, session.run, "undo")
            self.assertEqual(len(session.history()), 400 + 1 + 3 + 401 + 1)

    def test_two_sessions_beside_each_other(self):
        one, other = Session((2, 2)), Session((2, 2), most=1)
        self.assertEqual((one.run("add 0 1"), other.run("up 0")), ("2", "2"))
        self.assertRaises(Full, other.run, "up 0")
        self.assertEqual(one.run("up 2"), "3")
        self.assertEqual((one.program, other.program), ((("add", 0, 1), ("up", 2)), (("up", 0),)))
        self.assertEqual((other.run("undo"), other.program, len(one.program)), ("done", (), 2))
        self.assertRaises(NothingToUndo, other.run, "undo")
        self.assertEqual(one.history(), (("add 0 1", True), ("up 2", True)))
        self.assertEqual(other.history(), (("up 0", True), ("up 0", False), ("undo", True), ("undo", False)))


class Histories(Modelled):
    def test_true_and_false(self):
        session = Session((2, 2))
        commands = ["add 0 1", "up 7", "table", "nonsense", "", "undo", "undo", "show", "trim", "add 0 1"]
        for command in commands:
            try:
                session.run(command)
            except errors.ReachError:
                pass
        done = (True, False, True, False, False, True, False, True, False, True)
        self.assertTrue(same(session.history(), tuple(zip(commands, done))))

    def test_it_is_a_value(self):
        session = Session((2, 2))
        first = session.history()
        session.run("up 0")
        self.assertEqual(first, ())
        self.assertTrue(same(session.history(), session.history()))
        before = session.program
        session.run("not 0")
        self.assertEqual(before, (("up", 0),))


class Arguments(unittest.TestCase):
    def test_by_name_in_another_order(self):
        session = Session(most=1, shape=(2, 2))
        self.assertEqual(session.run(command="up 0"), "2")
        with self.assertRaises(Full) as caught:
            session.run(command="up 0")
        self.assertEqual(caught.exception.value, 1)
        self.assertEqual(Session(shape=(1, 1)).shape, (1, 1))
        self.assertRaises(InvalidShape, Session, most=3, shape=(9, 9))


if __name__ == "__main__":
    unittest.main()
