"""Section 15: text format; and what guarantee (f) says of it."""

import re
import unittest

from tests.drawn import NAMES, general_tables, tables_for
from tests.reference import FORMS, SETS, drawn_program, is_step
from tests.values import SHAPES, copied, odd_integers, odd_values, same, scattered, scattered_table
from wordreach.building import program_for
from wordreach.errors import ParseError
from wordreach.evidence import evidence_against
from wordreach.formats import format_evidence, format_program, format_table, parse_program, parse_table
from wordreach.tables import known_table

EVERY_WORD = SETS["any both"]
NUMBER = re.compile("0|[1-9][0-9]*")

# Characters to put into a text, and digits that are not 0 to 9 among them.
CHARACTERS = (" ", "\n", "0", "1", "7", "-", "+", "x", "\t", "_", ".", "\r", "\u0663", "\u00b2", "\uff11", "\x0b", "")


def number_there(word):
    """Return the number that a word is, None if it is none or greater than any that could stand there."""
    if not NUMBER.fullmatch(word) or len(word) > 20:
        return None
    return int(word)


def parsed_there(shape, text):
    """Return the program that a text is, or the index of the first wrong line."""
    steps = []
    for index, line in enumerate(text.split("\n")):
        word, *operands = line.split(" ")
        steps.append((word, *(number_there(operand) for operand in operands)))
        if not is_step(shape, index, steps[-1]):
            return index
    return tuple(steps)


def table_there(shape, text):
    """Return the table that a text is, or the index of the first wrong word."""
    size = 2 ** (shape[0] * shape[1])
    found = ()
    for index, word in enumerate(text.split(" ")):
        number = number_there(word)
        if index >= size or number is None or number >= 2 ** shape[0]:
            return index
        found += (number,)
    return found if len(found) == size else len(found)


def changed_texts(text, at_most=400):
    """Return texts that are unlike a text in one character, put in, left out or exchanged."""
    found = []
    step = max(1, len(text) * len(CHARACTERS) * 2 // at_most)
    for k in range(0, (len(text) + 1) * len(CHARACTERS), step):
        at, which = divmod(k, len(CHARACTERS))
        character = CHARACTERS[which]
        found += [text[:at] + character + text[at:], text[:at] + character + text[at + 1:]]
    return found


def rearranged(parts):
    """Return lists of parts in which one is left out, doubled, exchanged with the next one, or put in elsewhere."""
    found = []
    for k in range(len(parts)):
        found += [parts[:k] + parts[k + 1:], parts[:k + 1] + parts[k:]]
        if k + 1 < len(parts):
            found.append(parts[:k] + [parts[k + 1], parts[k]] + parts[k + 2:])
        found.append(parts[:k] + [parts[-1 - k]] + parts[k:])
    return found


class Formatted(unittest.TestCase):
    def test_programs(self):
        for shape in SHAPES:
            for many in (1, 2, 5, 20):
                program = drawn_program(EVERY_WORD, shape, many, many)
                text = format_program(program)
                self.assertIs(type(text), str)
                lines = text.split("\n")
                self.assertEqual(len(lines), many)
                for line, (word, *operands) in zip(lines, program):
                    self.assertEqual(line.split(" "), [word] + [repr(operand) for operand in operands])

    def test_by_hand(self):
        self.assertEqual(format_program((("const", 0),)), "const 0")
        self.assertEqual(format_program((("mask", 0, 255), ("not", 1), ("sub", 2, 0))), "mask 0 255\nnot 1\nsub 2 0")
        self.assertEqual(format_table((0, 1, 1, 0)), "0 1 1 0")
        self.assertEqual(format_evidence(("apart", 1, 0, 5)), "apart 1 0 5")
        self.assertEqual(format_evidence(("falls", 1, 2, 10)), "falls 1 2 10")
        self.assertEqual(format_evidence(("four", 0, 0, 1, 2)), "four 0 0 1 2")
        self.assertEqual(format_evidence(("heavy", 7, 255)), "heavy 7 255")

    def test_tables(self):
        for shape in SHAPES:
            table = scattered_table(shape)
            text = format_table(table)
            self.assertEqual(text.split(" "), [repr(result) for result in table])

    def test_evidence(self):
        kinds = set()
        for shape in ((1, 2), (2, 2), (3, 2), (8, 1)):
            for name in NAMES:
                for table in tables_for(name, shape)[2:5] + [known_table(shape, "product")]:
                    evidence = evidence_against(name, shape, table)
                    if evidence is not None:
                        kinds.add(evidence[0])
                        self.assertEqual(format_evidence(evidence), " ".join(map(str, evidence)))
        self.assertEqual(kinds, {"apart", "falls", "four", "heavy"})


class ReadBack(unittest.TestCase):
    def test_programs(self):
        for shape in SHAPES:
            for many in (1, 2, 3, 7, 30, 100, 399, 400):
                program = drawn_program(EVERY_WORD, shape, many, many)
                before = copied(program)
                self.assertTrue(same(parse_program(shape, format_program(program)), program))
                self.assertTrue(same(program, before))

    def test_each_instruction(self):
        for shape in SHAPES:
            last = shape[1] - 1
            for word, form in FORMS.items():
                for top in (0, 1):
                    step = (word, *((2 ** shape[0] - 1 if kind == "w" else last) * top for kind in form))
                    self.assertTrue(same(parse_program(shape, format_program((step,))), (step,)))

    def test_programs_that_were_returned(self):
        for shape in ((8, 1), (4, 2), (2, 4)):
            program = program_for("any both", shape, scattered_table(shape, 2))
            self.assertTrue(same(parse_program(shape, format_program(program)), program))

    def test_tables(self):
        for shape in SHAPES:
            for table in general_tables(shape):
                before = copied(table)
                self.assertTrue(same(parse_table(shape, format_table(table)), table))
                self.assertTrue(same(table, before))


class Read(unittest.TestCase):
    """What the tests of both kinds of texts share: how one is read, written, and read by the reference."""

    def check(self, shape, text):
        """Check that a text is read as what it is, or refused with the right index. Return whether it is read."""
        wanted = self.there(shape, text)
        if type(wanted) is tuple:
            found = self.parse(shape, text)
            self.assertTrue(same(found, wanted), text)
            self.assertEqual(self.write(found), text)
            return True
        with self.assertRaises(ParseError, msg=(shape, text)) as caught:
            self.parse(shape, text)
        self.assertTrue(same(caught.exception.index, wanted), (shape, text))
        return False

    def refused(self, shape, text, index):
        """Check that a text is refused with an index."""
        self.assertFalse(self.check(shape, text))
        self.assertEqual(self.there(shape, text), index, text)


class Programs(Read):
    parse = staticmethod(parse_program)
    write = staticmethod(format_program)
    there = staticmethod(parsed_there)

    def test_changed_characters(self):
        read = 0
        for shape in ((1, 1), (2, 2), (3, 1), (8, 1), (1, 4), (2, 4)):
            for many in (1, 2, 4, 12):
                text = format_program(drawn_program(EVERY_WORD, shape, many, 3 * many))
                for other in changed_texts(text):
                    read += self.check(shape, other)
        self.assertLess(300, read)

    def test_changed_words_and_lines(self):
        read = refused = 0
        for shape in ((1, 1), (2, 2), (3, 1), (8, 1), (1, 4)):
            for many in (1, 2, 5, 9):
                text = format_program(drawn_program(EVERY_WORD, shape, many, 5 * many))
                lines = text.split("\n")
                texts = ["\n".join(other) for other in rearranged(lines)]
                for k, line in enumerate(lines):
                    for words in rearranged(line.split(" ")):
                        texts.append("\n".join(lines[:k] + [" ".join(words)] + lines[k + 1:]))
                    for word in ("", "\n", "up 0\n", "nor 0 0\n"):
                        texts.append("\n".join(lines[:k] + [word + line] + lines[k:]))
                for other in texts:
                    if self.check(shape, other):
                        read += 1
                    else:
                        refused += 1
        self.assertLess(100, read)
        self.assertLess(300, refused)

    def test_cut_off(self):
        text = format_program(drawn_program(EVERY_WORD, (8, 1), 30, 2))
        for at in range(len(text)):
            self.check((8, 1), text[:at])
            self.check((8, 1), text[at:])

    def test_empty_lines_and_spaces(self):
        for text, index in (
            ("", 0), ("\n", 0), ("\n\n", 0), (" ", 0), ("up 0\n", 1), ("\nup 0", 0), ("up 0\n\nup 0", 1),
            ("up 0\n ", 1),
            ("up 0 ", 0), (" up 0", 0), ("up  0", 0), ("up\t0", 0), ("up 0\n up 0", 1), ("up 0\nup 0 ", 1),
            ("up 0\r\nup 0", 0), ("up 0\rup 0", 0), ("up 0\x0bup 0", 0), ("up 0\u2028up 0", 0), ("up", 0), ("up ", 0),
            ("up 0 0", 0), ("add 0", 0), ("add 0 0 0", 0), ("const", 0), ("mask 0", 0), ("UP 0", 0), ("Up 0", 0),
            ("0", 0), ("0 up", 0), ("up 0;up 0", 0), ("up 0 / up 0", 0), ("# up 0", 0), ("call 0 0", 0), ("-", 0),
        ):
            self.refused((2, 2), text, index)

    def test_numbers(self):
        for number, fits in (
            ("0", True), ("1", True), ("2", False), ("00", False), ("01", False), ("+0", False), ("-0", False),
            ("-1", False), ("+1", False), ("1.0", False), ("1_0", False), ("0x0", False), ("", False), ("a", False),
            ("True", False), ("\u0661", False), ("\u00b9", False), ("\uff11", False), ("1e0", False), ("1L", False),
            ("0b1", False), ("None", False), ("1\n", False),
        ):
            for form in ("up N", "add N 0", "add 0 N", "mask N 1"):
                text = form.replace("N", number)
                self.assertIs(self.check((3, 2), text), fits, text)
                self.assertIs(self.check((3, 2), "up 0\n" + text.replace("2", "3")), fits)

    def test_numbers_of_many_digits(self):
        for many in (2, 3, 9, 10, 11, 20, 40, 300, 4299, 4300, 4301, 9000, 100000):
            for digit in ("1", "9", "0"):
                number = digit * many
                for form in ("up N", "add N 0", "add 0 N", "mask N 1", "mask 0 N", "const N", "N", "N 0"):
                    for start, index in (("", 0), ("up 0\n", 1)):
                        with self.assertRaises(ParseError) as caught:
                            parse_program((2, 2), start + form.replace("N", number))
                        self.assertEqual(caught.exception.index, index)
            with self.assertRaises(ParseError) as caught:
                parse_program((2, 2), "up 0\nup " + "0" * many + "1\nup 0")
            self.assertEqual(caught.exception.index, 1)

    def test_operands_at_their_bounds(self):
        for shape in SHAPES:
            width, inputs = shape
            top = 2 ** width - 1
            for before in (0, 1, 8, 399):
                start = "not 0\n" * before
                known = inputs + before
                for word, form in FORMS.items():
                    edges = {"w": top, "v": known - 1}
                    good = [edges[kind] for kind in form]
                    self.assertTrue(self.check(shape, start + " ".join(map(str, [word, *good]))))
                    for at in range(len(form)):
                        bent = [word, *good]
                        bent[1 + at] += 1
                        self.refused(shape, start + " ".join(map(str, bent)), before)

    def test_the_first_wrong_line(self):
        lines = ["up 0"] * 400
        for index in (0, 1, 2, 77, 398, 399):
            for wrong in ("up 500", "", "up", "up 0 ", "nor 0 0", f"up {index + 2}"):
                text = "\n".join(lines[:index] + [wrong] + lines[index + 1:])
                self.refused((2, 2), text, index)
                # What comes later does not count.
                self.refused((2, 2), text + "\nup -1\n\nfoo", index)

    def test_values_of_every_kind(self):
        for shape in ((1, 1), (2, 2), (8, 1)):
            for value in odd_values() + odd_integers() + [0, 1, ["up 0"], ("up 0",), (("up", 0),), {"up": 0}]:
                if type(value) is not str:
                    before = copied(value)
                    for function in (parse_program, parse_table):
                        with self.assertRaises(ParseError) as caught:
                            function(shape, value)
                        self.assertTrue(same(caught.exception.index, 0))
                    self.assertTrue(same(value, before))
                else:
                    self.check(shape, value)


class Tables(Read):
    parse = staticmethod(parse_table)
    write = staticmethod(format_table)
    there = staticmethod(table_there)

    def test_changed_characters(self):
        read = 0
        for shape in SHAPES:
            text = format_table(scattered_table(shape, 3))
            for other in changed_texts(text, 300):
                read += self.check(shape, other)
        self.assertLess(200, read)

    def test_changed_words(self):
        read = refused = 0
        for shape in ((1, 1), (1, 2), (2, 1), (2, 2), (3, 1), (1, 4)):
            words = format_table(scattered_table(shape, 3)).split(" ")
            for other in rearranged(words):
                if self.check(shape, " ".join(other)):
                    read += 1
                else:
                    refused += 1
        self.assertLess(20, read)
        self.assertLess(50, refused)

    def test_too_few_and_too_many(self):
        for shape in SHAPES:
            size = 2 ** (shape[0] * shape[1])
            for many in (1, size // 2, size - 1, size + 1, size + 2, 2 * size):
                if many != size:
                    self.refused(shape, " ".join(["1"] * many), min(many, size))
            # The first one too many is told, whatever it is; a wrong one ahead of it comes first.
            for word in ("x", "", "999", "0"):
                self.refused(shape, " ".join(["1"] * size + [word]), size)
                self.refused(shape, " ".join(["0"] * (size - 1) + ["x", word]), size - 1)
                self.refused(shape, " ".join(["x"] + ["0"] * size + [word]), 0)

    def test_empty_words_and_spaces(self):
        for text, index in (
            ("", 0), (" ", 0), ("0", 1), ("0 ", 1), (" 0 1", 0), ("0 1 ", 2), ("0  1", 1), ("0 1 0", 2), ("0\t1", 0),
            ("0\n1", 0), ("0 1\n", 1), ("\n0 1", 0), ("0,1", 0), ("0, 1", 0), ("(0 1)", 0), ("0 1 \n", 2), ("  ", 0),
        ):
            self.refused((1, 1), text, index)
        self.assertTrue(self.check((1, 1), "0 1"))

    def test_numbers(self):
        for word in (
            "00", "01", "+0", "-0", "-1", "1.0", "0x1", "", "a", "True", "\u0661", "\u00b9", "\uff11", "1e0", "1_0",
            "1L",
        ) + tuple("1" * many for many in (9, 10, 11, 20, 4299, 4300, 4301, 9000, 100000)) + ("0" * 5000,):
            for at in range(4):
                words = ["1", "0", "3", "2"]
                words[at] = word
                with self.assertRaises(ParseError) as caught:
                    parse_table((2, 1), " ".join(words))
                self.assertTrue(same(caught.exception.index, at))
        self.assertEqual(parse_table((2, 1), "1 0 3 2"), (1, 0, 3, 2))

    def test_results_at_their_bounds(self):
        for shape in SHAPES:
            size = 2 ** (shape[0] * shape[1])
            top = 2 ** shape[0] - 1
            for at in {0, 1, size // 2, size - 1}:
                words = ["0"] * size
                words[at] = str(top)
                self.assertTrue(self.check(shape, " ".join(words)))
                words[at] = str(top + 1)
                self.refused(shape, " ".join(words), at)

    def test_strings_of_every_kind(self):
        for shape in ((1, 1), (2, 2)):
            for value in odd_values():
                if type(value) is str:
                    self.check(shape, value)

    def test_drawn_texts(self):
        pieces = ("0", "1", "2", "3", " ", "  ", "00", "10", "\n", "-")
        for shape in ((1, 1), (2, 1), (1, 2)):
            for seed in range(300):
                text = "".join(pieces[k] for k in scattered(2 + seed % 9, len(pieces), seed))
                self.check(shape, text)
                self.check(shape, " ".join(pieces[k] for k in scattered(2 ** (shape[0] * shape[1]), 6, seed)))


class Arguments(unittest.TestCase):
    def test_by_name_in_another_order(self):
        self.assertEqual(format_program(program=(("up", 0),)), "up 0")
        self.assertEqual(format_table(table=(0, 1)), "0 1")
        self.assertEqual(format_evidence(evidence=("heavy", 0, 9)), "heavy 0 9")
        self.assertEqual(parse_program(text="up 0", shape=(2, 1)), (("up", 0),))
        self.assertEqual(parse_table(text="0 1", shape=(1, 1)), (0, 1))
        self.assertRaises(ParseError, parse_program, text="up 1", shape=(2, 1))
        self.assertRaises(ParseError, parse_table, text="0 2", shape=(1, 1))


if __name__ == "__main__":
    unittest.main()
