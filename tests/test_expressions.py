"""Section 14: expressions."""

import unittest

from tests.drawn import BETWEEN, MOVES, led_along
from tests.reference import FORMS, RESULTS, SETS, all_values, all_words, drawn_program, is_program, no_places
from tests.values import SHAPES, copied, odd_integers, odd_values, same, scattered
from wordreach.errors import InvalidOperand, InvalidWords, NoPlace
from wordreach.expressions import Expression, constant, input_words
from wordreach.judging import computes
from wordreach.programs import run, table_of
from wordreach.tables import known_table, result_bit

FEW_SHAPES = ((1, 1), (1, 4), (2, 2), (2, 4), (3, 1), (4, 2), (8, 1))


def kept(expression):
    """Return all that is to be seen of an expression."""
    return copied((expression.shape, expression.table, expression.program))


def denoted(expression):
    """Return the instruction words that an expression says that it denotes."""
    return {word for word in FORMS if word in expression}


class Checked(unittest.TestCase):
    def check(self, expression, shape, table, words):
        """Check an expression: its shape and table, the words that it denotes, and its program."""
        self.assertIsInstance(expression, Expression)
        self.assertTrue(same(expression.shape, shape))
        self.assertTrue(same(expression.table, table), (shape, expression.program))
        self.assertEqual(denoted(expression), set(words))
        self.check_program(expression)
        return expression

    def check_program(self, expression):
        """Check that the program of an expression is what section 14 says."""
        shape = expression.shape
        program = expression.program
        self.assertIs(is_program(shape, program), True, program)
        self.assertEqual(table_of(shape, program), expression.table)
        self.assertTrue({step[0] for step in program} <= denoted(expression) | {"const", "mask"})
        self.assertEqual(len(set(program)), len(program))
        self.assertTrue(same(program, expression.program))

    def refused(self, value, function, *arguments):
        """Check that a call raises InvalidOperand with the very value."""
        before = copied(value) if not isinstance(value, Expression) else kept(value)
        with self.assertRaises(InvalidOperand) as caught:
            function(*arguments)
        self.assertIs(caught.exception.value, value)
        after = value if not isinstance(value, Expression) else kept(value)
        self.assertTrue(same(after, before))


class Words(Checked):
    def test_input_words(self):
        for shape in SHAPES:
            found = input_words(shape)
            self.assertIs(type(found), tuple)
            self.assertEqual(len(found), shape[1])
            for k, expression in enumerate(found):
                self.check(expression, shape, tuple(words[k] for words in all_words(shape)), set())

    def test_constants(self):
        for shape in SHAPES:
            for word in range(2 ** shape[0]):
                self.check(constant(shape, word), shape, (word,) * 2 ** (shape[0] * shape[1]), {"const"})
                self.assertEqual({step[0] for step in constant(shape, word).program} - {"const", "mask"}, set())

    def test_read_only(self):
        x = input_words((2, 2))[0]
        for name in ("shape", "table", "program"):
            with self.assertRaises(AttributeError):
                setattr(x, name, ())


class Operators(Checked):
    def test_between_expressions(self):
        for shape in SHAPES:
            words = input_words(shape)
            for name, sign in BETWEEN.items():
                for one in range(shape[1]):
                    for other in range(shape[1]):
                        left, right = words[one], words[other]
                        before = (kept(left), kept(right))
                        wanted = tuple(RESULTS[name](shape[0], row[one], row[other]) for row in all_words(shape))
                        self.check(sign(left, right), shape, wanted, {name})
                        self.assertTrue(same((kept(left), kept(right)), before))

    def test_words_on_either_side(self):
        for shape in FEW_SHAPES:
            top = 2 ** shape[0] - 1
            x = input_words(shape)[-1]
            for word in sorted({0, 1, top // 2, top - 1, top}):
                for name, sign in BETWEEN.items():
                    before = kept(x)
                    front = tuple(RESULTS[name](shape[0], word, value) for value in x.table)
                    back = tuple(RESULTS[name](shape[0], value, word) for value in x.table)
                    wanted = {"mask"} if name == "and" else {name, "const"}
                    self.check(sign(word, x), shape, front, wanted)
                    self.check(sign(x, word), shape, back, wanted)
                    self.assertTrue(same(kept(x), before))

    def test_constants_are_no_words(self):
        # An expression that is constant is no mask.
        x, y = input_words((2, 2))
        for word in range(4):
            table = tuple(value & word for value in x.table)
            self.check(x & constant((2, 2), word), (2, 2), table, {"and", "const"})
            self.check(constant((2, 2), word) & x, (2, 2), table, {"and", "const"})
            self.check(constant((2, 2), word) & 3, (2, 2), (word,) * 16, {"mask", "const"})

    def test_not(self):
        for shape in SHAPES:
            for k, x in enumerate(input_words(shape)):
                wanted = tuple(2 ** shape[0] - 1 - row[k] for row in all_words(shape))
                self.check(~x, shape, wanted, {"not"})
                self.assertEqual((~~x).table, x.table)

    def test_moves(self):
        for shape in SHAPES:
            top = 2 ** shape[0]
            for x in input_words(shape):
                for many in range(9):
                    before = kept(x)
                    up = tuple(value * 2 ** many % top for value in x.table)
                    down = tuple(value // 2 ** many for value in x.table)
                    self.check(x << many, shape, up, {"up"} if many else set())
                    self.check(x >> many, shape, down, {"down"} if many else set())
                    self.assertTrue(same(kept(x), before))
                    if many:
                        self.assertEqual([step[0] for step in (x << many).program if step[0] != "mask"], ["up"] * many)

    def test_signs_that_change_a_name(self):
        x, y = input_words((2, 2))
        first = x
        x += y
        self.check(x, (2, 2), known_table((2, 2), "sum"), {"add"})
        x -= y
        self.check(x, (2, 2), first.table, {"add", "sub"})
        x &= 1
        x |= 2
        x ^= y
        x *= 3
        x <<= 1
        x >>= 0
        wanted = tuple((((a & 1 | 2) ^ b) * 3 * 2) % 4 for a, b in all_words((2, 2)))
        self.check(x, (2, 2), wanted, set(FORMS) - {"down", "not", "and"})
        self.check(first, (2, 2), known_table((2, 2), "first"), set())

    def test_the_order_of_operands(self):
        x, y = input_words((3, 2))
        self.assertEqual((x - y)((1, 3)), 6)
        self.assertEqual((y - x)((1, 3)), 2)
        self.assertEqual((5 - x)((1, 3)), 4)
        self.assertEqual((x - 5)((1, 3)), 4)
        self.assertEqual((7 - x)((1, 3)), 6)
        self.assertEqual((x - 7)((1, 3)), 2)

    def test_nested_operators(self):
        for shape in ((1, 3), (2, 2), (4, 2), (8, 1)):
            x, y = (input_words(shape) * 2)[:2]
            top = 2 ** shape[0]
            pairs = list(zip(x.table, y.table))
            self.check(~(x + y) & y, shape, tuple((top - 1 - (a + b) % top) & b for a, b in pairs),
                       {"not", "add", "and"})
            self.check((x ^ y) + 2 * (x & y) if top > 2 else x + y, shape, tuple((a + b) % top for a, b in pairs),
                       {"xor", "add", "mul", "and", "const"} if top > 2 else {"add"})
            self.check((x << 1) - (y >> 1), shape, tuple((2 * a - b // 2) % top for a, b in pairs),
                       {"up", "down", "sub"})
            self.check((x | 1) * (y & 1), shape, tuple((a | 1) * (b & 1) % top for a, b in pairs),
                       {"or", "const", "mul", "mask"})


class WrongOperands(Checked):
    def values(self, shape):
        """Return values of every kind that are no operands of a shape."""
        top = 2 ** shape[0]
        return odd_values() + odd_integers()[:2] + [-1, top, top + 1, 10 ** 40, -10 ** 40, True, False, (0,), [0], "x"]

    def test_both_sides_of_every_operator(self):
        for shape in ((1, 1), (2, 2), (1, 4), (8, 1)):
            x = input_words(shape)[0]
            for expression in (x, x + 1, constant(shape, 0)):
                before = kept(expression)
                for value in self.values(shape):
                    for sign in BETWEEN.values():
                        self.refused(value, sign, expression, value)
                        self.refused(value, sign, value, expression)
                self.assertTrue(same(kept(expression), before))

    def test_words_at_their_bounds(self):
        for shape in SHAPES:
            x = input_words(shape)[0]
            top = 2 ** shape[0]
            for sign in BETWEEN.values():
                for word in (0, top - 1):
                    self.check_program(sign(x, word))
                    self.check_program(sign(word, x))
                for value in (-1, top):
                    self.refused(value, sign, x, value)
                    self.refused(value, sign, value, x)

    def test_other_shapes(self):
        for shape in ((1, 1), (2, 2), (2, 1), (4, 2), (1, 4)):
            for other in SHAPES:
                left = input_words(shape)[0]
                right = input_words(other)[-1]
                if other != shape:
                    for sign in BETWEEN.values():
                        self.refused(right, sign, left, right)
                        self.refused(left, sign, right, left)
                else:
                    for name, sign in BETWEEN.items():
                        self.check_program(sign(left, right))

    def test_moves(self):
        for shape in ((1, 1), (2, 2), (8, 1)):
            x = input_words(shape)[0]
            values = odd_values() + odd_integers() + [-1, 9, 10, True, False]
            values += [x, constant(shape, 1), constant((3, 2), 1)]
            for value in values:
                if type(value) is int and 0 <= value <= 8:
                    continue
                for sign in MOVES.values():
                    self.refused(value, sign, x, value)
                    self.refused(value, sign, x + 1, value)
            for sign in MOVES.values():
                self.check_program(sign(x, 8))
                self.check_program(sign(x, 0))

    def test_moves_are_no_words(self):
        # In words of one bit there are only 0 and 1, but eight moves.
        x = input_words((1, 1))[0]
        self.assertEqual((x << 8).table, (0, 0))
        self.assertEqual((x >> 2).table, (0, 0))
        self.assertEqual((x << 0).table, (0, 1))


class Comparing(Checked):
    def test_equal(self):
        for shape in FEW_SHAPES:
            words = input_words(shape)
            x, y = words[0], words[-1]
            self.assertIs(x == x, True)
            self.assertIs(x == input_words(shape)[0], True)
            self.assertIs(x != input_words(shape)[0], False)
            self.assertIs(x == y, shape[1] == 1)
            self.assertIs(x + y == y + x, True)
            self.assertIs(x ^ x == constant(shape, 0), True)
            self.assertIs(x - y == x + ~y + 1, True)
            self.assertIs(x == ~x, False)
            self.assertIs(x != ~x, True)
            self.assertIs(~~x == x, True)
            self.assertIs(x & y == x * y, shape[0] == 1 or shape == (1, 1))

    def test_one_result_alone(self):
        x, y = input_words((2, 2))
        lone = ((x ^ 3) & (y ^ 3)) & ((x ^ 3) & (y ^ 3)) >> 1 & 1
        self.assertIs(lone == constant((2, 2), 0), False)
        self.assertIs(x ^ lone == x, False)
        self.assertIs((x ^ lone) ^ lone == x, True)

    def test_other_shapes(self):
        for shape in SHAPES:
            for other in SHAPES:
                self.assertIs(constant(shape, 1) == constant(other, 1), shape == other)
                self.assertIs(constant(shape, 1) != constant(other, 1), shape != other)
                self.assertIs(input_words(shape)[0] == input_words(other)[0], shape == other)
        # The same table of another shape.
        self.assertEqual(constant((1, 2), 1).table, constant((2, 1), 1).table)
        self.assertIs(constant((1, 2), 1) == constant((2, 1), 1), False)

    def test_nothing_else(self):
        x = input_words((2, 2))[0]
        values = odd_values() + odd_integers() + [0, 1, x.table, x.shape, x.program, list(x.table), [x], (x,), {0: x}]
        for value in values:
            self.assertIs(x == value, False)
            self.assertIs(value == x, False)
            self.assertIs(x != value, True)
            self.assertIs(value != x, True)
        for word in range(4):
            self.assertIs(constant((2, 2), word) == word, False)

    def test_lies_in(self):
        for shape in FEW_SHAPES:
            words = input_words(shape)
            x, y = words[0], words[-1]
            nothing, all_of_it = constant(shape, 0), constant(shape, 2 ** shape[0] - 1)
            expressions = [x, y, x & y, x | y, x ^ y, x + y, ~x, nothing, all_of_it, x & 1, x | 1, x << 1]
            for one in expressions:
                for other in expressions:
                    wanted = all(a | b == b for a, b in zip(one.table, other.table))
                    before = (kept(one), kept(other))
                    self.assertIs(one.lies_in(other), wanted)
                    self.assertTrue(same((kept(one), kept(other)), before))
                self.assertIs(nothing.lies_in(one) and one.lies_in(all_of_it) and one.lies_in(one), True)
            self.assertIs((x & y).lies_in(x) and x.lies_in(x | y), True)
            self.assertIs(all_of_it.lies_in(nothing), False)

    def test_lies_in_what_is_no_expression(self):
        x = input_words((2, 2))[0]
        for value in odd_values() + odd_integers() + [0, 1, 3, x.table, x.shape, x.program, [x], (x,)]:
            with self.assertRaises(InvalidOperand) as caught:
                x.lies_in(value)
            self.assertIs(caught.exception.value, value)
        for shape in SHAPES:
            if shape != (2, 2):
                other = constant(shape, 1)
                self.refused(other, x.lies_in, other)
                self.refused(x, other.lies_in, x)

    def test_truth(self):
        for shape in SHAPES:
            words = input_words(shape)
            x = words[0]
            self.assertIs(bool(x), True)
            self.assertIs(bool(x - x), False)
            self.assertIs(bool(x ^ x), False)
            self.assertIs(bool(x & 0), False)
            self.assertIs(bool(constant(shape, 0)), False)
            self.assertIs(bool(constant(shape, 2 ** (shape[0] - 1))), True)
            self.assertIs(bool(x << shape[0]), False)
            self.assertIs(bool(x << (shape[0] - 1)), True)
            # 1 for the last input number alone, then for the first one alone.
            for signs in (words, [~word for word in words]):
                lone = constant(shape, 1)
                for word in signs:
                    for place in range(shape[0]):
                        lone = lone & word >> place
                self.assertIs(bool(lone), True)
                self.assertEqual(sum(lone.table), 1)
                self.assertIs(bool(lone << shape[0]), False)
        self.assertTrue(x and not x - x)


class Reading(Checked):
    def some_expressions(self, shape):
        """Return expressions of a shape of several kinds."""
        words = input_words(shape)
        x, y = words[0], words[-1]
        return [x, y, constant(shape, 1), x + y, x * y, ~x ^ (y << 1), x - 1 | y]

    def test_call(self):
        for shape in SHAPES:
            for expression in self.some_expressions(shape):
                for number, words in enumerate(all_words(shape)):
                    before = copied(words)
                    self.assertTrue(same(expression(words), expression.table[number]))
                    self.assertTrue(same(words, before))
                    self.assertEqual(expression(words), run(shape, expression.program, words))

    def test_call_with_values_of_every_kind(self):
        for shape in SHAPES:
            width, inputs = shape
            good = (2 ** width - 1,) * inputs
            values = [value for value in odd_values() if value != (0,) * inputs and value != (1,) * inputs]
            values = [value for value in values if not (type(value) is tuple and value == (1, 2, 3) and inputs == 3)]
            values += odd_integers() + [0, 1, list(good), good + (0,), good[1:], (True,) * inputs, (None,) * inputs]
            values += [good[1:] + (2 ** width,), (-1,) + good[1:], good[1:] + (False,), ("1",) * inputs, (good,)]
            for expression in self.some_expressions(shape):
                for value in values:
                    before = copied(value)
                    with self.assertRaises(InvalidWords, msg=value) as caught:
                        expression(value)
                    self.assertIs(caught.exception.value, value)
                    self.assertTrue(same(value, before))
                expression(good)

    def test_index(self):
        for shape in SHAPES:
            for expression in self.some_expressions(shape):
                for place in range(shape[0]):
                    wanted = tuple(result // 2 ** place % 2 for result in expression.table)
                    self.assertTrue(same(expression[place], wanted))
                    self.assertEqual(expression[place], result_bit(shape, expression.table, place))

    def test_index_with_values_of_every_kind(self):
        for shape in SHAPES:
            for expression in self.some_expressions(shape)[::3]:
                for value in no_places(shape) + [-1, shape[0], True, False]:
                    before = copied(value)
                    with self.assertRaises(NoPlace) as caught:
                        expression[value]
                    self.assertIs(caught.exception.value, value)
                    self.assertTrue(same(value, before))

    def test_in(self):
        x, y = input_words((3, 2))
        mixed = ~((x & 5) + (y << 2)) - (x * y >> 1) | 3
        for word in ("not", "mask", "add", "up", "sub", "mul", "down", "or", "const"):
            self.assertIs(word in mixed, True)
        for word in ("and", "xor"):
            self.assertIs(word in mixed, False)
        for value in odd_values() + odd_integers() + [0, 1, "And", "or ", " or", "o", "", ("or",), ["or"], {"or": 1}]:
            if value not in ("not", "up", "and"):
                before = copied(value)
                self.assertIs(value in mixed, False, value)
                self.assertIs(value in x, False)
                self.assertTrue(same(value, before))
        for word in FORMS:
            self.assertIs(word in x, False)
            self.assertIs(word in constant((3, 2), 0), word == "const")
            self.assertIs(word in (x << 0), False)

    def test_in_what_cancels_out(self):
        # What is denoted counts, whatever its values are.
        x = input_words((2, 1))[0]
        self.assertEqual(denoted((x + 1) - (x + 1)), {"add", "sub", "const"})
        self.assertEqual(denoted((x & 0) * (x | 0)), {"mask", "or", "mul", "const"})


class Programs(Checked):
    def test_what_is_used_several_times(self):
        for shape in FEW_SHAPES:
            words = input_words(shape)
            x, y = words[0], words[-1]
            shared = x + y
            again = x + y
            for expression, many in (
                (shared * shared, 2), (shared * again, 2), (shared - (again ^ shared), 3), ((x | 1) ^ (y * 1), 4),
                ((x << 2) + (x << 3), 4), (~(x & 1) | ~(x & 1), 3), ((x & 1) + (1 & x), 2), ((x + 1) - (x + 1), 3),
            ):
                self.check_program(expression)
                self.assertEqual(len(expression.program), many)

    def test_joined_with_itself_forty_times(self):
        for shape in FEW_SHAPES:
            for name, sign in BETWEEN.items():
                x = input_words(shape)[-1]
                wanted = x.table
                for _ in range(40):
                    x = sign(x, x)
                    wanted = tuple(RESULTS[name](shape[0], value, value) for value in wanted)
                self.check(x, shape, wanted, {name})
                self.assertEqual(len(x.program), 40)

    def test_two_hundred_operators(self):
        for shape in ((1, 1), (2, 2), (2, 4), (8, 1)):
            words = input_words(shape)
            result = words[0]
            wanted = result.table
            numbers = scattered(600, 2 ** 20, shape[0])
            for k in range(200):
                name = sorted(BETWEEN)[numbers[k] % 6]
                other = words[numbers[k + 200] % shape[1]]
                word = numbers[k + 400] % 2 ** shape[0]
                if k % 3 == 0 and name != "and":
                    result = BETWEEN[name](result, word)
                    wanted = tuple(RESULTS[name](shape[0], a, word) for a in wanted)
                elif k % 3 == 1:
                    result = BETWEEN[name](other, result)
                    wanted = tuple(RESULTS[name](shape[0], b, a) for a, b in zip(wanted, other.table))
                else:
                    result = ~result
                    wanted = tuple(RESULTS["not"](shape[0], a) for a in wanted)
            self.assertEqual(result.table, wanted)
            self.check_program(result)

    def test_one_sign_two_hundred_times(self):
        for shape in ((2, 2), (8, 1)):
            for sign in list(BETWEEN.values()):
                result = input_words(shape)[0]
                for k in range(200):
                    result = sign(result, input_words(shape)[-1]) if k % 2 else sign(k // 2 % 2, result)
                self.check_program(result)

    def test_led_along_a_program(self):
        # An expression for each value of a program, by the operator of its instruction.
        for shape in FEW_SHAPES:
            for many, words in ((1, SETS["any both"]), (9, SETS["any both"]), (40, SETS["multiplying"]), (40, FORMS)):
                program = drawn_program(words, shape, many, many)
                values = led_along(shape, program)
                rows = [all_values(shape, program, inputs) for inputs in all_words(shape)]
                for number, expression in enumerate(values):
                    self.assertEqual(expression.table, tuple(row[number] for row in rows))
                for expression in values[-3:]:
                    self.check_program(expression)

    def test_400_instructions(self):
        for shape in ((2, 2), (8, 1)):
            program = drawn_program(SETS["any both"], shape, 400, 2)
            last = led_along(shape, program)[-1]
            self.assertEqual(last.table, table_of(shape, program))
            self.check_program(last)

    def test_the_sets_of_an_expression(self):
        x, y = input_words((3, 2))
        self.assertIs(computes("adding", (3, 2), (x - y ^ (x << 1)).table), True)
        self.assertIs(computes("monotone up", (3, 2), (x & y | (x << 1)).table), True)
        self.assertIs(computes("multiplying", (3, 2), (x * y + 5).table), True)
        self.assertIs(computes("adding", (3, 2), (x * y + 5).table), False)

    def test_equal_expressions(self):
        def mixed():
            """Return a new expression, always the same."""
            x, y = input_words((2, 2))
            return (x & y | 2) - (x + y) * ~x

        self.assertTrue(same(kept(mixed()), kept(mixed())))
        self.assertIs(mixed() == mixed(), True)


class Arguments(unittest.TestCase):
    def test_by_name_in_another_order(self):
        x, y = input_words(shape=(2, 2))
        self.assertEqual(constant(word=3, shape=(2, 2)).table, (3,) * 16)
        self.assertEqual((x + y)(words=(1, 2)), 3)
        self.assertIs(x.lies_in(b=x | y), True)
        self.assertRaises(InvalidOperand, x.lies_in, b=3)
        self.assertRaises(InvalidWords, x, words=[1, 2])

    def test_methods_of_the_class_itself(self):
        names = "and rand or ror xor rxor add radd sub rsub mul rmul invert lshift rshift eq call getitem contains bool"
        for name in [f"__{word}__" for word in names.split()] + ["lies_in", "shape", "table", "program"]:
            self.assertIn(name, vars(Expression))
        for name in ("shape", "table", "program"):
            self.assertIsInstance(vars(Expression)[name], property)

    def test_not_iterated_over(self):
        with self.assertRaises(TypeError):
            list(input_words((2, 2))[0])


if __name__ == "__main__":
    unittest.main()
