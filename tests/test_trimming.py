"""Section 10: changing programs; and guarantee (d)."""

import unittest

from tests.reference import FORMS, SETS, all_values, all_words, drawn_program, is_program as is_program_there
from tests.values import SHAPES, copied, same, scattered
from wordreach.errors import HasDown
from wordreach.programs import is_program, run, table_of
from wordreach.trimming import chained, narrowed, numbered, trimmed

EVERY_WORD = SETS["any both"]
WITHOUT_DOWN = SETS["any up"]


def exchanged(step, numbers):
    """Return an instruction with other numbers of values."""
    word, *operands = step
    return (word, *(numbers[n] if kind == "v" else n for kind, n in zip(FORMS[word], operands)))


def values_of_step(step):
    """Return the numbers of the values that an instruction takes."""
    return [operand for kind, operand in zip(FORMS[step[0]], step[1:]) if kind == "v"]


def trimmed_there(program, inputs):
    """Return the trimmed program, found from what its last value depends on."""
    todo = [inputs + len(program) - 1]
    needed = set()
    while todo:
        number = todo.pop()
        if number not in needed:
            needed.add(number)
            todo += values_of_step(program[number - inputs]) if number >= inputs else []
    kept = [number for number in range(inputs, inputs + len(program)) if number in needed]
    numbers = {number: number for number in range(inputs)}
    numbers.update({number: inputs + k for k, number in enumerate(kept)})
    return tuple(exchanged(program[number - inputs], numbers) for number in kept)


def numbered_there(program, inputs):
    """Return the numbered program, found by looking back from each instruction."""
    stands_for = {number: number for number in range(inputs)}
    kept = []
    for k, step in enumerate(program):
        step = exchanged(step, stands_for)
        if step in kept and k < len(program) - 1:
            stands_for[inputs + k] = inputs + kept.index(step)
        else:
            stands_for[inputs + k] = inputs + len(kept)
            kept.append(step)
    return tuple(kept)


def some_programs(shape, words=EVERY_WORD, seed=0):
    """Return programs of several lengths that look random."""
    return [drawn_program(words, shape, many, 7 * many + seed) for many in (1, 2, 3, 4, 6, 9, 14, 25, 60)]


def doubled_programs(shape):
    """Return programs in which many instructions are equal, also when their operands are replaced."""
    found = []
    for many in (1, 2, 3, 5, 8):
        start = drawn_program(EVERY_WORD, shape, many, many)
        inputs = shape[1]
        again = []
        for at in (many, 2 * many):
            # The same instructions over the values of the copy.
            numbers = list(range(inputs)) + [inputs + at + k for k in range(many)]
            again += [exchanged(step, numbers) for step in start]
        found += [start + tuple(again), start + tuple(again) + (("xor", inputs + many - 1, inputs + 2 * many - 1),)]
        found += [start + start, tuple(step for step in start for _ in range(3))]
    return found


def programs_of_400(shape):
    """Return programs of 400 instructions: needed throughout, not needed but for the last one, doubled, drawn."""
    inputs = shape[1]
    top = 2 ** shape[0] - 1
    return [
        tuple(("add", inputs + k - 1, 0) for k in range(400)),
        (("not", 0),) * 399 + (("up", 0),),
        (("up", 0),) * 400,
        tuple(("mask", 0, k % (top + 1)) for k in range(400)),
        tuple(("not", inputs + k - 2 if k > 1 else 0) for k in range(400)),
        drawn_program(EVERY_WORD, shape, 400, 3),
        drawn_program({"add", "mask"}, shape, 400, 4),
    ]


class Changed(unittest.TestCase):
    def check_kept(self, shape, program, other):
        """Check that another program is a program and has the same table."""
        self.assertIs(is_program_there(shape, other), True, (shape, program, other))
        self.assertEqual(table_of(shape, other), table_of(shape, program), (shape, program, other))


class Trimmed(Changed):
    def check(self, shape, program):
        """Check the trimmed program. Return it."""
        inputs = shape[1]
        before = copied(program)
        found = trimmed(program, inputs=inputs)
        self.assertTrue(same(found, trimmed_there(program, inputs)), (shape, program, found))
        self.assertTrue(same(program, before))
        self.assertTrue(same(trimmed(found, inputs=inputs), found))
        self.check_kept(shape, program, found)
        return found

    def test_drawn_programs(self):
        shorter = 0
        for shape in SHAPES:
            for program in some_programs(shape):
                shorter += len(self.check(shape, program)) < len(program)
        self.assertLess(20, shorter)

    def test_doubled_programs(self):
        for shape in ((1, 1), (2, 2), (2, 3), (2, 4), (8, 1)):
            for program in doubled_programs(shape):
                self.check(shape, program)

    def test_one_to_four_inputs(self):
        for inputs in range(1, 5):
            last = inputs - 1
            program = (("not", 0), ("up", last), ("const", 1), ("xor", inputs + 1, last))
            self.assertEqual(self.check((2, inputs), program), (("up", last), ("xor", inputs, last)))
            self.assertEqual(self.check((2, inputs), (("up", last), ("not", last))), (("not", last),))

    def test_nothing_to_be_left_out(self):
        for shape in ((2, 1), (2, 2), (1, 3), (2, 4)):
            inputs = shape[1]
            for program in (
                (("const", 1),), (("up", 0),), (("mask", inputs - 1, 1),), (("up", 0), ("not", inputs)),
                (("up", 0), ("not", 0), ("add", inputs, inputs + 1)), (("const", 0), ("sub", inputs, inputs)),
            ):
                self.assertEqual(self.check(shape, program), program)

    def test_all_but_the_last_one(self):
        for shape in ((2, 1), (2, 2), (1, 3), (2, 4)):
            start = drawn_program(EVERY_WORD, shape, 30, 9)
            for step in (("const", 1), ("up", 0), ("mask", shape[1] - 1, 1), ("add", 0, 0), ("xor", shape[1] - 1, 0)):
                self.assertEqual(self.check(shape, start + (step,)), (step,))

    def test_words_are_no_numbers_of_values(self):
        # In (8, 1), all numbers of values could be words, too.
        program = (("not", 0), ("const", 1), ("up", 0), ("mask", 3, 2), ("mask", 4, 1))
        self.assertEqual(self.check((8, 1), program), (("up", 0), ("mask", 1, 2), ("mask", 2, 1)))
        program = (("not", 0), ("up", 0), ("const", 2), ("xor", 3, 0))
        self.assertEqual(self.check((8, 1), program), (("const", 2), ("xor", 1, 0)))
        self.assertEqual(self.check((8, 1), (("up", 0), ("not", 0), ("const", 1))), (("const", 1),))
        self.assertEqual(self.check((8, 1), (("up", 0), ("not", 0), ("mask", 0, 1))), (("mask", 0, 1),))

    def test_whatever_their_values_are(self):
        # The difference is 0 whatever stands in it, and the mask lets nothing through: both are kept.
        program = (("not", 0), ("up", 1), ("sub", 2, 2), ("mask", 3, 0), ("mul", 4, 1))
        self.assertEqual(self.check((3, 1), program), program)

    def test_through_either_operand(self):
        for word in ("and", "or", "xor", "add", "sub", "mul"):
            for step, wanted in (
                ((word, 2, 1), (("up", 0), (word, 2, 1))), ((word, 1, 2), (("up", 0), (word, 1, 2))),
                ((word, 3, 1), (("not", 0), (word, 2, 1))), ((word, 1, 3), (("not", 0), (word, 1, 2))),
                ((word, 3, 3), (("not", 0), (word, 2, 2))), ((word, 0, 1), ((word, 0, 1),)),
            ):
                self.assertEqual(self.check((2, 2), (("up", 0), ("not", 0), step)), wanted)

    def test_400_instructions(self):
        for shape in ((1, 1), (2, 2), (2, 4), (8, 1)):
            programs = programs_of_400(shape)
            lengths = [len(self.check(shape, program)) for program in programs]
            self.assertEqual(lengths[:5], [400, 1, 1, 1, 200])


class Numbered(Changed):
    def check(self, shape, program):
        """Check the numbered program. Return it."""
        inputs = shape[1]
        before = copied(program)
        found = numbered(program, inputs=inputs)
        self.assertTrue(same(found, numbered_there(program, inputs)), (shape, program, found))
        self.assertTrue(same(program, before))
        self.assertEqual(len(set(found[:-1])), len(found) - 1)
        self.assertTrue(same(numbered(found, inputs=inputs), found))
        self.check_kept(shape, program, found)
        return found

    def test_drawn_programs(self):
        for shape in SHAPES:
            for program in some_programs(shape) + some_programs(shape, {"up", "and", "mask"}):
                self.check(shape, program)

    def test_doubled_programs(self):
        shorter = 0
        for shape in ((1, 1), (2, 2), (2, 3), (2, 4), (8, 1)):
            for program in doubled_programs(shape):
                shorter += len(self.check(shape, program)) < len(program)
        self.assertLess(60, shorter)

    def test_through_replaced_operands(self):
        program = (
            ("up", 0), ("up", 0), ("not", 1), ("not", 2), ("add", 3, 4), ("add", 4, 3), ("mul", 5, 6), ("mask", 7, 1),
        )
        wanted = (("up", 0), ("not", 1), ("add", 2, 2), ("mul", 3, 3), ("mask", 4, 1))
        self.assertEqual(self.check((3, 1), program), wanted)

    def test_only_equal_instructions(self):
        # None of these is equal to another one, although some have the same values.
        program = (
            ("add", 0, 1), ("add", 1, 0), ("or", 0, 1), ("xor", 0, 1), ("up", 0), ("add", 0, 0), ("mask", 0, 1),
            ("mask", 0, 2), ("mask", 1, 1), ("const", 1), ("const", 2), ("not", 1), ("down", 1), ("sub", 0, 1),
        )
        self.assertEqual(self.check((2, 2), program), program)

    def test_words_are_no_numbers_of_values(self):
        # The value 2 is left out and stands for 1; the words 2 stay.
        program = (("up", 0), ("up", 0), ("mask", 2, 2), ("const", 2), ("mask", 3, 1), ("mask", 1, 2), ("xor", 6, 5))
        wanted = (("up", 0), ("mask", 1, 2), ("const", 2), ("mask", 2, 1), ("xor", 2, 4))
        self.assertEqual(self.check((2, 1), program), wanted)

    def test_the_last_one_is_kept(self):
        for shape in ((2, 1), (2, 2), (2, 3), (2, 4)):
            for step in (("up", 0), ("const", 3), ("mask", 0, 2), ("add", 0, shape[1] - 1)):
                self.assertEqual(self.check(shape, (step,)), (step,))
                for many in (2, 3, 9):
                    self.assertEqual(self.check(shape, (step,) * many), (step, step))
                self.assertEqual(self.check(shape, (step, ("not", 0), step)), (step, ("not", 0), step))
                self.assertEqual(self.check(shape, (step, step, ("not", 0))), (step, ("not", 0)))
        # Equal only when its operands are replaced.
        program = (("up", 0), ("up", 0), ("not", 1), ("not", 2))
        self.assertEqual(self.check((2, 1), program), (("up", 0), ("not", 1), ("not", 1)))

    def test_what_is_not_needed_stays(self):
        program = (("not", 0), ("up", 0), ("const", 1))
        self.assertEqual(self.check((2, 2), program), program)

    def test_400_instructions(self):
        for shape in ((1, 1), (2, 2), (2, 4), (8, 1)):
            lengths = [len(self.check(shape, program)) for program in programs_of_400(shape)]
            self.assertEqual(lengths[:5], [400, 2, 2, min(2 ** shape[0] + 1, 257), 201])


class Narrowed(unittest.TestCase):
    def check(self, shape, program, width):
        """Check that a narrowed program has smaller words, is all else as it was, and computes the lower bits."""
        before = copied(program)
        found = narrowed(program, width)
        self.assertTrue(same(program, before))
        wanted = tuple(
            (word, *(n % 2 ** width if kind == "w" else n for kind, n in zip(FORMS[word], operands)))
            for word, *operands in program
        )
        self.assertTrue(same(found, wanted), (program, width, found))
        narrow = (width, shape[1])
        self.assertIs(is_program(narrow, found), True)
        lower = {words: run(narrow, found, words) for words in all_words(narrow)}
        for words, result in zip(all_words(shape), table_of(shape, program)):
            cut = tuple(word % 2 ** width for word in words)
            self.assertEqual(result % 2 ** width, lower[cut], (shape, program, width, words))

    def test_drawn_programs(self):
        for shape in SHAPES:
            for width in range(1, shape[0] + 1):
                for program in some_programs(shape, WITHOUT_DOWN, width)[:: 1 if shape[0] * shape[1] < 7 else 3]:
                    self.check(shape, program, width)

    def test_each_instruction(self):
        for shape in ((8, 1), (4, 2), (2, 3)):
            top = 2 ** shape[0] - 1
            last = shape[1] - 1
            for word in sorted(WITHOUT_DOWN):
                operands = {"w": (top,), "vw": (last, top - 1), "v": (last,), "vv": (0, last)}
                for width in range(1, shape[0] + 1):
                    self.check(shape, ((word, *operands[FORMS[word]]),), width)
                    self.check(shape, (("not", 0), ("mask", 0, top // 3), (word, *operands[FORMS[word]])), width)

    def test_constants_to_each_width(self):
        program = (("const", 255), ("mask", 0, 170), ("mask", 7, 129), ("const", 0))
        # Numbers of values stay, also those above the greatest word.
        long = (("up", 0),) * 8 + (("mask", 8, 255), ("add", 9, 8))
        for width in range(1, 9):
            top = 2 ** width - 1
            self.assertEqual(narrowed(program, width), (
                ("const", 255 % (top + 1)), ("mask", 0, 170 % (top + 1)), ("mask", 7, 129 % (top + 1)), ("const", 0),
            ))
            self.assertEqual(narrowed(long, width), (("up", 0),) * 8 + (("mask", 8, top), ("add", 9, 8)))
        self.assertEqual(narrowed((("mask", 0, 13), ("up", 1)), 4), (("mask", 0, 13), ("up", 1)))

    def test_down(self):
        for before in (0, 1, 2, 7, 399):
            start = drawn_program(WITHOUT_DOWN, (4, 2), before, 5)
            for after in ((), (("up", 0),), (("down", 0),), (("const", 9), ("down", 1))):
                if before + 1 + len(after) > 400:
                    continue
                for width in (1, 2, 4):
                    program = start + (("down", before // 2),) + after
                    with self.assertRaises(HasDown) as caught:
                        narrowed(program, width)
                    self.assertTrue(same(caught.exception.index, before))

    def test_what_down_leaves_behind(self):
        # It is refused even if its value is not needed, and even at the full width.
        for width in (1, 2):
            with self.assertRaises(HasDown) as caught:
                narrowed((("up", 0), ("down", 0), ("const", 1)), width)
            self.assertEqual(caught.exception.index, 1)

    def test_400_instructions(self):
        for shape in ((8, 1), (4, 2), (2, 4)):
            for width in (1, shape[0] - 1, shape[0]):
                self.check(shape, drawn_program(WITHOUT_DOWN, shape, 400, 6), width)


class Chained(unittest.TestCase):
    def check(self, shape, first, second):
        """Check the program that runs one behind the other, by its instructions and by its values."""
        width, inputs = shape
        before = copied((first, second))
        found = chained(first, second, inputs=inputs)
        self.assertTrue(same((first, second), before))
        last = inputs + len(first) - 1
        numbers = [last] + list(range(1, inputs)) + [last + 1 + k for k in range(len(second))]
        self.assertTrue(same(found, first + tuple(exchanged(step, numbers) for step in second)))
        self.assertIs(is_program_there(shape, found), True)
        for words in all_words(shape)[::1 if width * inputs < 7 else 5]:
            values = all_values(shape, first, words)
            behind = all_values(shape, second, (values[-1],) + words[1:])
            self.assertEqual(all_values(shape, found, words), values + behind[inputs:], (shape, first, second, words))
        return found

    def test_drawn_programs(self):
        for shape in SHAPES:
            firsts = some_programs(shape)[1:7:2]
            seconds = some_programs(shape, EVERY_WORD, 3)[:6:2]
            for first in firsts:
                for second in seconds:
                    self.check(shape, first, second)

    def test_the_table(self):
        for shape in SHAPES:
            for first, second in zip(some_programs(shape)[:6], some_programs(shape, EVERY_WORD, 8)[5::-1]):
                table = table_of(shape, chained(first, second, inputs=shape[1]))
                results = table_of(shape, first)
                wanted = tuple(
                    run(shape, second, (results[number],) + words[1:]) for number, words in enumerate(all_words(shape))
                )
                self.assertEqual(table, wanted)

    def test_first_word_other_words_none(self):
        first = (("up", 0), ("not", 1))
        for second, wanted in (
            ((("not", 0),), (("not", 3),)),
            ((("not", 1),), (("not", 1),)),
            ((("add", 0, 1),), (("add", 3, 1),)),
            ((("add", 1, 0),), (("add", 1, 3),)),
            ((("sub", 0, 0),), (("sub", 3, 3),)),
            ((("const", 3),), (("const", 3),)),
            ((("const", 0), ("up", 2), ("mask", 3, 0), ("xor", 4, 0)),
             (("const", 0), ("up", 4), ("mask", 5, 0), ("xor", 6, 3))),
        ):
            self.assertEqual(self.check((2, 2), first, second), first + wanted)

    def test_one_to_four_inputs(self):
        for inputs in range(1, 5):
            first = (("not", inputs - 1), ("mask", inputs, 2))
            second = tuple(("up", k) for k in range(inputs)) + (("mask", 0, 1), ("add", inputs, inputs))
            end = inputs + 1
            wanted = (("up", end),) + tuple(("up", k) for k in range(1, inputs)) + (
                ("mask", end, 1), ("add", end + 1, end + 1),
            )
            self.assertEqual(self.check((2, inputs), first, second), first + wanted)

    def test_nothing_is_left_out(self):
        step = (("up", 0),)
        self.assertEqual(self.check((2, 1), step, step), (("up", 0), ("up", 1)))
        self.assertEqual(self.check((2, 1), (("not", 0), ("up", 0)), step), (("not", 0), ("up", 0), ("up", 2)))
        self.assertEqual(self.check((2, 2), (("const", 1),), (("const", 1),)), (("const", 1), ("const", 1)))

    def test_three_in_whatever_order(self):
        for shape in SHAPES:
            inputs = shape[1]
            for seed in range(4):
                one, two, three = (drawn_program(EVERY_WORD, shape, many, seed) for many in (3, 1 + seed, 5))
                front = chained(chained(one, two, inputs=inputs), three, inputs=inputs)
                back = chained(one, chained(two, three, inputs=inputs), inputs=inputs)
                self.assertTrue(same(front, back))
                self.assertEqual(len(front), 9 + seed)

    def test_400_instructions(self):
        for shape in ((1, 1), (2, 2), (2, 4), (8, 1)):
            first, second = (drawn_program(EVERY_WORD, shape, 400, seed) for seed in (1, 2))
            found = self.check(shape, first, second)
            self.assertEqual(len(found), 800)
            # What was returned may be passed on, however long it is.
            self.assertEqual(len(chained(found, found, inputs=shape[1])), 1600)
            short = trimmed(numbered(found, inputs=shape[1]), inputs=shape[1])
            self.assertLess(len(short), 800)
            self.assertEqual(table_of(shape, short), table_of(shape, found))


class Together(Changed):
    def test_all_changes(self):
        for shape in SHAPES:
            inputs = shape[1]
            for seed in scattered(3, 100, shape[0]):
                program = drawn_program(EVERY_WORD, shape, 30, seed)
                self.check_kept(shape, program, trimmed(numbered(program, inputs=inputs), inputs=inputs))
                self.check_kept(shape, program, numbered(trimmed(program, inputs=inputs), inputs=inputs))

    def test_trimming_does_not_hinder_narrowing(self):
        program = (("down", 0), ("up", 0), ("mask", 2, 6))
        self.assertEqual(narrowed(trimmed(program, inputs=1), 2), (("up", 0), ("mask", 1, 2)))


class Arguments(unittest.TestCase):
    def test_by_name_in_another_order(self):
        long = (("up", 0), ("not", 1), ("up", 0), ("add", 2, 4))
        self.assertEqual(trimmed(inputs=2, program=long), (("up", 0), ("up", 0), ("add", 2, 3)))
        self.assertEqual(numbered(inputs=2, program=long), (("up", 0), ("not", 1), ("add", 2, 2)))
        self.assertEqual(narrowed(width=2, program=(("mask", 0, 13),)), (("mask", 0, 1),))
        self.assertEqual(chained(second=(("up", 0),), inputs=2, first=(("not", 1),)), (("not", 1), ("up", 2)))
        self.assertEqual(chained((("not", 1),), inputs=2, second=(("up", 0),)), (("not", 1), ("up", 2)))
        self.assertRaises(HasDown, narrowed, width=1, program=(("down", 0),))

    def test_inputs_by_name_alone(self):
        step = (("up", 0),)
        self.assertRaises(TypeError, trimmed, step, 1)
        self.assertRaises(TypeError, numbered, step, 1)
        self.assertRaises(TypeError, chained, step, step, 1)
        self.assertRaises(TypeError, trimmed, step)

    def test_equal_calls(self):
        program = drawn_program(EVERY_WORD, (2, 2), 40, 1)
        self.assertTrue(same(trimmed(program, inputs=2), trimmed(program, inputs=2)))
        self.assertTrue(same(numbered(program, inputs=2), numbered(program, inputs=2)))
        self.assertTrue(same(chained(program, program, inputs=2), chained(program, program, inputs=2)))
        for _ in range(2):
            self.assertRaises(HasDown, narrowed, (("down", 0),), 2)


if __name__ == "__main__":
    unittest.main()
