"""Section 6: instruction sets."""

import unittest

from tests.reference import SETS, no_set_names
from tests.values import copied, same
from wordreach.errors import UnknownName
from wordreach.sets import instructions_of, is_within, set_names

# The table of section 6, row by row, in words.
ROWS = {
    "any": "const mask and or xor not",
    "any up": "const mask and or xor not up add sub mul",
    "any down": "const mask and or xor not down",
    "any both": "const mask and or xor not up down add sub mul",
    "monotone": "const mask and or",
    "monotone up": "const mask and or up",
    "monotone down": "const mask and or down",
    "monotone both": "const mask and or up down",
    "affine": "const mask xor not",
    "affine up": "const mask xor not up",
    "affine down": "const mask xor not down",
    "affine both": "const mask xor not up down",
    "adding": "const mask xor not up add sub",
    "multiplying": "const mask xor not up add sub mul",
}


class Sets(unittest.TestCase):
    def test_names(self):
        self.assertTrue(same(set_names(), (
            "adding", "affine", "affine both", "affine down", "affine up", "any", "any both", "any down", "any up",
            "monotone", "monotone both", "monotone down", "monotone up", "multiplying",
        )))
        self.assertEqual(set_names(), tuple(sorted(ROWS)))

    def test_instructions(self):
        for name, words in ROWS.items():
            with self.subTest(name=name):
                self.assertTrue(same(instructions_of(name), tuple(sorted(words.split()))))
                self.assertEqual(set(instructions_of(name)), SETS[name])

    def test_within(self):
        found = 0
        for name in ROWS:
            for other in ROWS:
                with self.subTest(name=name, other=other):
                    wanted = set(ROWS[name].split()) <= set(ROWS[other].split())
                    self.assertIs(is_within(name, other), wanted)
                    found += wanted
        self.assertLess(14, found)

    def test_within_by_hand(self):
        for name in ROWS:
            self.assertIs(is_within(name, name), True)
            self.assertIs(is_within(name, "any both"), True)
            self.assertIs(is_within("any both", name), name == "any both")
        inner = [name for name in sorted(ROWS) if is_within(name, "multiplying")]
        self.assertEqual(inner, ["adding", "affine", "affine up", "multiplying"])
        outer = [name for name in sorted(ROWS) if is_within("monotone up", name)]
        self.assertEqual(outer, ["any both", "any up", "monotone both", "monotone up"])

    def test_a_name_made_anew(self):
        # Names are compared as strings, not as the same objects.
        name = " ".join(["affine", "both"])
        self.assertEqual(instructions_of(name), tuple(sorted(ROWS["affine both"].split())))
        self.assertIs(is_within(name, "".join(["any", " both"])), True)


class UnknownNames(unittest.TestCase):
    def check(self, value, function, *arguments):
        """Check that a call raises UnknownName with the very value."""
        before = copied(value)
        with self.subTest(value=value, function=function.__name__):
            with self.assertRaises(UnknownName) as caught:
                function(*arguments)
            self.assertIs(caught.exception.value, value)
            self.assertTrue(same(value, before))

    def test_instructions_of(self):
        for value in no_set_names():
            self.check(value, instructions_of, value)

    def test_either_name_of_is_within(self):
        for value in no_set_names():
            for name in ("adding", "any both", "monotone"):
                self.check(value, is_within, value, name)
                self.check(value, is_within, name, value)

    def test_both_names_wrong(self):
        values = no_set_names()
        others = no_set_names()[::-1]
        for value in values:
            for other in others[::7] + ["none", 3, [], None]:
                self.check(value, is_within, value, other)


class Arguments(unittest.TestCase):
    def test_by_name_in_another_order(self):
        self.assertEqual(instructions_of(name="affine"), ("const", "mask", "not", "xor"))
        self.assertIs(is_within(other="any up", name="adding"), True)
        self.assertIs(is_within(other="adding", name="any up"), False)
        with self.assertRaises(UnknownName) as caught:
            is_within(other="b", name="a")
        self.assertEqual(caught.exception.value, "a")

    def test_equal_calls(self):
        for _ in range(2):
            self.assertEqual(len(set_names()), 14)
            self.assertEqual(instructions_of("monotone"), ("and", "const", "mask", "or"))
            self.assertRaises(UnknownName, instructions_of, "mono")
            self.assertIs(is_within("monotone", "affine"), False)


if __name__ == "__main__":
    unittest.main()
