"""Section 9: programs."""

import unittest

from tests.reference import (
    FORMS, RESULTS, SETS, all_values, all_words, drawn_program, indicator, is_program as is_program_there, no_set_names,
)
from tests.values import SHAPES, WIDEST_SHAPES, copied, nested, odd_integers, odd_values, same, scattered
from wordreach.errors import InvalidWords, UnknownName
from wordreach.programs import first_difference, is_of, is_program, run, table_of, values_of, words_used
from wordreach.tables import known_table, number_of

EVERY_WORD = SETS["any both"]


def long_programs(shape):
    """Return programs of 400 instructions: chains over the last value, all constants, and drawn ones."""
    inputs = shape[1]
    chains = []
    for word in sorted(FORMS):
        steps = []
        for k in range(400):
            last = inputs + k - 1
            top = 2 ** shape[0] - 1
            operands = {"w": (k & top,), "vw": (last, top), "v": (last,), "vv": (last, k % inputs)}
            steps.append((word, *operands[FORMS[word]]))
        chains.append(tuple(steps))
    return chains + [drawn_program(EVERY_WORD, shape, 400, 3)]


def drawn_programs(shape):
    """Return programs of several lengths that look random."""
    return [drawn_program(EVERY_WORD, shape, many, 10 * many + 1) for many in (1, 2, 3, 5, 9, 17, 40)]


class IsProgram(unittest.TestCase):
    def check(self, shape, value):
        """Check whether a value is found to be a program exactly if it is. Return whether it is."""
        before = copied(value)
        wanted = is_program_there(shape, value)
        self.assertIs(is_program(shape, value), wanted, (shape, value))
        self.assertTrue(same(value, before))
        return wanted

    def test_operands_at_their_bounds(self):
        for shape in SHAPES:
            width, inputs = shape
            for before in (0, 1, 3):
                start = (("const", 0),) * before
                known = inputs + before
                edges = {"v": [0, known - 1, known, known + 1, -1, 10 ** 40], "w": [0, 2 ** width - 1, 2 ** width, -1]}
                for word, form in FORMS.items():
                    good = [edges[kind][1] for kind in form]
                    self.assertIs(is_program(shape, start + ((word, *good),)), True)
                    for at, kind in enumerate(form):
                        for k, operand in enumerate(edges[kind]):
                            step = (word, *good[:at], operand, *good[at + 1:])
                            self.assertIs(is_program(shape, start + (step,)), k < 2, (shape, step))
                            # What follows does not make a wrong instruction right.
                            self.assertIs(is_program(shape, start + (step, ("const", 0), ("up", 0))), k < 2)

    def test_the_own_number_of_a_value(self):
        for shape in SHAPES:
            inputs = shape[1]
            for word in ("not", "up", "down"):
                self.assertIs(is_program(shape, ((word, inputs - 1),)), True)
                self.assertIs(is_program(shape, ((word, inputs),)), False)
                self.assertIs(is_program(shape, ((word, 0), (word, inputs))), True)
                self.assertIs(is_program(shape, ((word, 0), (word, inputs + 1))), False)
                self.assertIs(is_program(shape, ((word, inputs), (word, 0))), False)
            for word in ("and", "or", "xor", "add", "sub", "mul"):
                self.assertIs(is_program(shape, ((word, 0, inputs - 1),)), True)
                self.assertIs(is_program(shape, ((word, 0, inputs),)), False)
                self.assertIs(is_program(shape, ((word, inputs, 0),)), False)
            # A word is no number of a value: it may be any word, however many values there are.
            top = 2 ** shape[0] - 1
            self.assertIs(is_program(shape, (("mask", 0, top), ("const", top))), True)

    def test_operands_more_or_fewer(self):
        for shape in ((1, 1), (2, 2), (1, 4)):
            for word, form in FORMS.items():
                for many in range(5):
                    self.assertIs(is_program(shape, ((word,) + (0,) * many,)), many == len(form), (word, many))

    def test_operands_of_every_kind(self):
        for shape in ((1, 1), (2, 2)):
            for word, form in FORMS.items():
                for at in range(len(form) + 1):
                    for value in odd_values() + odd_integers():
                        step = [word] + [0] * len(form)
                        step[at] = value
                        self.check(shape, (tuple(step),))
                        self.check(shape, (("const", 0), tuple(step), ("const", 1)))
                    for value in (True, False, "0", None, (0,), [0]):
                        step = [word] + [0] * len(form)
                        step[at] = value
                        self.assertIs(is_program(shape, (tuple(step),)), False)

    def test_values_of_every_kind(self):
        good = ("up", 0)
        forms = [
            (), [], [good], good, (good, []), (good, ()), (good, list(good)), ((good,),), ((good,), good), (good, None),
            {good: good}, (("up", 0, 0),), (("up",),), ("up 0",), "up 0", (good, good, "up"), ((("up",), 0),),
            (["up"], 0), ((["up"], 0),), (({}, 0),), (("UP", 0),), (("up ", 0),), (("nand", 0, 0),), (("if", 0),),
            ((0, "up"),), ((0, 0),), (("", 0),), ((None, 0),), ((True, 0),), (("adding", 0),),
        ]
        for shape in SHAPES:
            self.assertIs(is_program(shape, (good,)), True)
            for value in forms + odd_values() + odd_integers() + [0, 1]:
                with self.subTest(shape=shape, value=value):
                    self.assertIs(is_program(shape, value), False)
                    self.check(shape, value)
        for value in odd_values() + odd_integers():
            self.assertIs(is_program((2, 2), (good, value)), False)
            self.assertIs(is_program((2, 2), (value, good)), False)
            self.assertIs(is_program((2, 2), nested(tuple, 57, (good,))), False)

    def test_drawn_programs_and_bent_ones(self):
        accepted = refused = 0
        for shape in ((1, 1), (2, 2), (3, 1), (1, 4), (8, 1), (2, 3)):
            for program in drawn_programs(shape):
                self.assertIs(is_program(shape, program), True)
                for index, step in enumerate(program):
                    for other in self.bent_steps(shape, step, shape[1] + index):
                        if self.check(shape, program[:index] + (other,) + program[index + 1:]):
                            accepted += 1
                        else:
                            refused += 1
                self.assertIs(is_program(shape, list(program)), False)
                self.assertIs(is_program(shape, (program,)), False)
        self.assertLess(100, accepted)
        self.assertLess(1000, refused)

    def bent_steps(self, shape, step, known):
        """Return instructions that are unlike one in one part, or in its form."""
        found = [list(step), step + (0,), step[:-1], (), step[0], (step,), step[::-1], None, {step: 1}]
        found += [(word,) + step[1:] for word in list(FORMS) + ["", "nor", None, 0, ("up",), ["up"]]]
        size = 2 ** shape[0]
        for at in range(1, len(step)):
            for other in (True, False, None, "0", [0], -1, 0, known - 1, known, known + 1, size - 1, size):
                found.append(step[:at] + (other,) + step[at + 1:])
        return found

    def test_another_shape(self):
        program = (("mask", 3, 3), ("xor", 4, 0))
        for shape in SHAPES:
            self.assertIs(is_program(shape, program), shape[1] == 4 and shape[0] == 2)

    def test_400_instructions(self):
        for shape in ((1, 1), (2, 2), (1, 4)):
            for program in long_programs(shape):
                self.assertEqual(len(program), 400)
                self.assertIs(is_program(shape, program), True)
                self.assertIs(is_program(shape, program[:-1] + (("up", shape[1] + 399),)), False)
                self.assertIs(is_program(shape, program[:-1] + (("up", shape[1] + 398),)), True)
                self.assertIs(is_program(shape, (("up", shape[1]),) + program[1:]), False)


class Run(unittest.TestCase):
    def check(self, shape, program):
        """Check run, values_of and table_of for all words."""
        results = []
        for words in all_words(shape):
            wanted = all_values(shape, program, words)
            self.assertEqual(list(values_of(shape, program, words)), wanted)
            result = run(shape, program, words)
            self.assertTrue(same(result, wanted[-1]))
            results.append(result)
        self.assertTrue(same(table_of(shape, program), tuple(results)))

    def test_each_instruction(self):
        for shape in SHAPES:
            width, inputs = shape
            words = sorted({0, 1, 2 ** width - 1, 2 ** width // 2, 2 ** width // 3})
            for word, form in FORMS.items():
                programs = [((word, *operands),) for operands in {
                    "w": [(c,) for c in words], "vw": [(inputs - 1, c) for c in words], "v": [(0,), (inputs - 1,)],
                    "vv": [(0, inputs - 1), (inputs - 1, 0), (0, 0)],
                }[form]]
                for program in programs:
                    self.check(shape, program)

    def test_each_mask_and_constant(self):
        for shape in ((1, 2), (2, 2), (4, 1), (8, 1)):
            for word in range(2 ** shape[0]):
                words = all_words(shape)
                self.assertEqual(table_of(shape, (("const", word),)), (word,) * len(words))
                self.assertEqual(table_of(shape, (("mask", 0, word),)), tuple(row[0] & word for row in words))

    def test_all_pairs_of_words(self):
        for width in (1, 2, 3, 4):
            shape = (width, 2)
            for word in ("and", "or", "xor", "add", "sub", "mul"):
                for one, other in ((0, 1), (1, 0), (0, 0), (1, 1)):
                    wanted = tuple(RESULTS[word](width, words[one], words[other]) for words in all_words(shape))
                    self.assertTrue(same(table_of(shape, ((word, one, other),)), wanted))

    def test_constants_of_eight_bits(self):
        # Two operands of eight bits: an input word and a constant, on either side.
        for word in ("and", "or", "xor", "add", "sub", "mul"):
            for constant in (0, 1, 2, 3, 85, 127, 128, 170, 254, 255):
                for operands in ((0, 1), (1, 0)):
                    table = table_of((8, 1), (("const", constant), (word, *operands)))
                    wanted = tuple(
                        RESULTS[word](8, *[(x, constant)[operand] for operand in operands]) for x in range(256)
                    )
                    self.assertTrue(same(table, wanted))

    def test_by_hand(self):
        cases = (
            (("not", 0), 9, 6), (("up", 0), 9, 2), (("down", 0), 9, 4), (("mask", 0, 3), 9, 1), (("mask", 0, 8), 9, 8),
            (("add", 0, 0), 9, 2), (("sub", 0, 0), 9, 0), (("mul", 0, 0), 7, 1), (("mul", 0, 0), 6, 4),
            (("up", 0), 8, 0), (("down", 0), 1, 0), (("down", 0), 15, 7), (("const", 13), 2, 13), (("not", 0), 0, 15),
        )
        for step, word, wanted in cases:
            self.assertEqual(run((4, 1), (step,), (word,)), wanted, step)
        for step, wanted in ((("sub", 0, 1), 13), (("sub", 1, 0), 3), (("add", 0, 1), 15), (("mul", 1, 0), 6)):
            self.assertEqual(run((4, 2), (step,), (6, 9)), wanted, step)
        # A result is cut to a word at once: what went over the top does not come back.
        self.assertEqual(run((2, 1), (("up", 0), ("down", 1)), (3,)), 1)
        self.assertEqual(run((2, 1), (("add", 0, 0), ("down", 1)), (3,)), 1)
        self.assertEqual(run((3, 1), (("not", 0), ("down", 1)), (0,)), 3)
        self.assertEqual(run((3, 1), (("const", 0), ("sub", 1, 0), ("down", 2)), (1,)), 3)

    def test_the_last_value_is_the_result(self):
        program = (("const", 3), ("const", 1), ("const", 2))
        self.assertEqual(run((2, 2), program, (0, 0)), 2)
        self.assertEqual(list(values_of((2, 2), program, (1, 3))), [1, 3, 3, 1, 2])
        self.assertEqual(table_of((2, 2), program), (2,) * 16)

    def test_drawn_programs(self):
        for shape in SHAPES:
            for program in drawn_programs(shape)[:: 1 if shape[0] * shape[1] <= 6 else 3]:
                self.check(shape, program)

    def test_input_numbers(self):
        for shape in SHAPES:
            for k in range(shape[1]):
                table = table_of(shape, (("mask", k, 2 ** shape[0] - 1),))
                self.assertEqual(table, tuple(words[k] for words in all_words(shape)))
        self.assertEqual(table_of((2, 2), (("add", 0, 1),)), known_table((2, 2), "sum"))
        self.assertEqual(table_of((4, 2), (("mul", 0, 1),)), known_table((4, 2), "product"))
        self.assertEqual(table_of((2, 4), (("xor", 0, 1), ("xor", 2, 3), ("xor", 4, 5))), known_table((2, 4), "xor"))

    def test_400_instructions(self):
        for shape in WIDEST_SHAPES + ((1, 1), (2, 2)):
            every = all_words(shape)
            for program in long_programs(shape):
                table = table_of(shape, program)
                self.assertEqual(len(table), len(every))
                for number in [0, 1, len(every) - 1] + scattered(3, len(every), 9):
                    wanted = all_values(shape, program, every[number])
                    self.assertEqual(list(values_of(shape, program, every[number])), wanted)
                    self.assertEqual(run(shape, program, every[number]), wanted[-1])
                    self.assertEqual(table[number], wanted[-1])

    def test_iterated_over_once(self):
        program = (("up", 0), ("mask", 2, 2), ("xor", 3, 1))
        found = []
        for value in values_of((2, 2), program, (1, 3)):
            found.append(value)
        self.assertTrue(same(found, [1, 3, 2, 2, 1]))
        one = values_of((2, 2), program, (1, 3))
        other = values_of((2, 2), program, (2, 0))
        self.assertEqual(list(zip(one, other)), list(zip([1, 3, 2, 2, 1], [2, 0, 0, 0, 0])))


class Words(unittest.TestCase):
    def check(self, shape, value):
        """Check that run and values_of raise InvalidWords with the very value."""
        program = (("up", 0), ("add", 0, shape[1]))
        before = copied(value)
        with self.subTest(shape=shape, value=value):
            with self.assertRaises(InvalidWords) as caught:
                run(shape, program, value)
            self.assertIs(caught.exception.value, value)
            with self.assertRaises(InvalidWords) as caught:
                list(values_of(shape, program, value))
            self.assertIs(caught.exception.value, value)
            self.assertTrue(same(value, before))

    def test_values_of_every_kind(self):
        for shape in SHAPES:
            for value in odd_values() + odd_integers() + [0, 1, "0", "00", {0: 0}]:
                # A few of these are words of a shape after all.
                if type(value) is tuple and len(value) == shape[1] and all(type(word) is int for word in value):
                    if max(value) < 2 ** shape[0]:
                        continue
                self.check(shape, value)

    def test_one_wrong_word(self):
        for shape in SHAPES:
            width, inputs = shape
            for at in range(inputs):
                for wrong in odd_values() + odd_integers() + [-1, 2 ** width, 2 ** width + 1]:
                    if type(wrong) is int and 0 <= wrong < 2 ** width:
                        continue
                    self.check(shape, (0,) * at + (wrong,) + (0,) * (inputs - at - 1))

    def test_more_or_fewer(self):
        for shape in SHAPES:
            inputs = shape[1]
            for many in range(8):
                for word in (0, 1, 2 ** shape[0] - 1):
                    words = (word,) * many
                    if many != inputs:
                        self.check(shape, words)
                    else:
                        self.assertEqual(run(shape, (("mask", 0, word),), words), word)
                        self.check(shape, list(words))
                        self.check(shape, (words,))
            self.check(shape, (True,) * inputs)
            self.check(shape, (False,) + (0,) * (inputs - 1))
            self.check(shape, {k: 0 for k in range(inputs)})

    def test_edges(self):
        for shape in SHAPES:
            width, inputs = shape
            top = 2 ** width - 1
            self.assertEqual(run(shape, (("not", 0),), (top,) * inputs), 0)
            self.assertEqual(run(shape, (("not", inputs - 1),), (0,) * inputs), top)
            self.check(shape, (top + 1,) * inputs)
            self.check(shape, (-1,) * inputs)


class WordsUsed(unittest.TestCase):
    def test_words_used(self):
        for shape in ((1, 1), (2, 2), (4, 2)):
            for program in drawn_programs(shape) + long_programs(shape):
                self.assertTrue(same(words_used(program), tuple(sorted({step[0] for step in program}))))
        self.assertEqual(words_used((("up", 0),) * 3), ("up",))
        self.assertEqual(words_used(tuple((word,) + (0,) * len(form) for word, form in FORMS.items())), (
            "add", "and", "const", "down", "mask", "mul", "not", "or", "sub", "up", "xor",
        ))

    def test_each_word_and_each_set(self):
        for name in SETS:
            whole = tuple((word,) + (0,) * len(FORMS[word]) for word in sorted(SETS[name]))
            self.assertIs(is_of(name, whole), True)
            for word, form in FORMS.items():
                step = (word,) + (0,) * len(form)
                inside = word in SETS[name]
                self.assertIs(is_of(name, (step,)), inside, (name, word))
                self.assertIs(is_of(name, whole + (step,)), inside)
                self.assertIs(is_of(name, (step,) + whole), inside)
                self.assertIs(is_of(name, whole[:2] + (step,) + whole[2:]), inside)

    def test_drawn_programs(self):
        for name in SETS:
            for shape in ((2, 2), (8, 1)):
                for many in (1, 4, 30, 400):
                    program = drawn_program(SETS[name], shape, many, many + 1)
                    for other in SETS:
                        self.assertIs(is_of(other, program), {step[0] for step in program} <= SETS[other])

    def test_unknown_names(self):
        for value in no_set_names():
            for program in ((("up", 0),), (("const", 0), ("mul", 0, 1))):
                before = copied(value)
                with self.subTest(value=value):
                    with self.assertRaises(UnknownName) as caught:
                        is_of(value, program)
                    self.assertIs(caught.exception.value, value)
                    self.assertTrue(same(value, before))


class FirstDifference(unittest.TestCase):
    def test_each_input_number(self):
        for shape in SHAPES:
            size = 2 ** (shape[0] * shape[1])
            zero = (("const", 0),)
            for number in range(size) if size <= 64 else [0, 1, 100, size - 2, size - 1]:
                program = indicator(shape, number)
                self.assertEqual(table_of(shape, program), tuple(1 if n == number else 0 for n in range(size)))
                self.assertTrue(same(first_difference(shape, program, zero), number))
                self.assertTrue(same(first_difference(shape, zero, program), number))
                self.assertIsNone(first_difference(shape, program, program))

    def test_the_least_one(self):
        for shape in ((1, 1), (2, 1), (1, 3), (2, 2)):
            size = 2 ** (shape[0] * shape[1])
            for one in range(size):
                for other in range(size):
                    wanted = None if one == other else min(one, other)
                    found = first_difference(shape, indicator(shape, one), indicator(shape, other))
                    self.assertTrue(same(found, wanted))

    def test_the_last_input_number_alone(self):
        for shape in SHAPES:
            last = 2 ** (shape[0] * shape[1]) - 1
            one = indicator(shape, last)
            self.assertEqual(first_difference(shape, one, (("const", 0),)), last)
            self.assertEqual(first_difference(shape, (("const", 0),), one), last)

    def test_drawn_programs(self):
        met = set()
        for shape in ((1, 1), (2, 2), (4, 1), (1, 4), (2, 3)):
            programs = drawn_programs(shape) + [(("add", 0, 0),), (("up", 0),), (("const", 0),), (("xor", 0, 0),)]
            for one in programs:
                for other in programs:
                    pairs = list(zip(table_of(shape, one), table_of(shape, other)))
                    wanted = next((number for number, pair in enumerate(pairs) if pair[0] != pair[1]), None)
                    self.assertTrue(same(first_difference(shape, one, other), wanted))
                    met.add(wanted)
        self.assertTrue({None, 0, 1} <= met)

    def test_equal_functions(self):
        self.assertIsNone(first_difference((3, 2), (("up", 0),), (("add", 0, 0),)))
        negated = (("not", 1), ("const", 1), ("add", 2, 3), ("add", 0, 4))
        self.assertIsNone(first_difference((3, 2), (("sub", 0, 1),), negated))
        self.assertEqual(first_difference((3, 2), (("or", 0, 1),), (("xor", 0, 1),)), number_of((3, 2), (1, 1)))
        for shape in ((2, 2), (8, 1)):
            for program in long_programs(shape):
                self.assertIsNone(first_difference(shape, program, program))


class Arguments(unittest.TestCase):
    def test_by_name_in_another_order(self):
        double = (("up", 0), ("mask", 2, 2), ("xor", 3, 1))
        self.assertIs(is_program(value=double, shape=(2, 2)), True)
        self.assertEqual(run(words=(1, 3), program=double, shape=(2, 2)), 1)
        self.assertEqual(list(values_of(words=(1, 3), program=double, shape=(2, 2))), [1, 3, 2, 2, 1])
        self.assertEqual(table_of(program=double, shape=(2, 2)), table_of((2, 2), double))
        self.assertEqual(words_used(program=double), ("mask", "up", "xor"))
        self.assertIs(is_of(program=double, name="adding"), True)
        self.assertIs(is_of(program=double, name="affine"), False)
        self.assertEqual(first_difference(other=double, one=(("const", 0),), shape=(2, 2)), 1)
        self.assertRaises(InvalidWords, run, words=(1, 4), program=double, shape=(2, 2))
        self.assertRaises(UnknownName, is_of, program=double, name="none")

    def test_equal_calls(self):
        program = drawn_program(EVERY_WORD, (2, 2), 30, 4)
        table = table_of((2, 2), program)
        for words in all_words((2, 2)):
            first = run((2, 2), program, words)
            self.assertEqual(first, run((2, 2), program, words))
            self.assertEqual(first, table[number_of((2, 2), words)])
        self.assertEqual(table_of((2, 2), program), table)
        self.assertEqual(program, drawn_program(EVERY_WORD, (2, 2), 30, 4))


if __name__ == "__main__":
    unittest.main()
