"""rankedchains.words: promise [1] of NAMES and AXES, whole numbers of [0], words of a row."""

import unittest

from rankedchains.words import AXES, is_among, is_axis, is_name, is_whole, words_of
from things import things


class Wholes(unittest.TestCase):
    def test_whole_numbers(self):
        for thing in (0, 1, -1, 10**50, -(10**50)):
            self.assertIs(is_whole(thing), True)
        self.assertIs(is_whole(thing=3), True)

    def test_true_and_false_are_none(self):
        self.assertIs(is_whole(True), False)
        self.assertIs(is_whole(False), False)

    def test_of_anything(self):
        for thing in things():
            self.assertIs(is_whole(thing), type(thing) is int)

    def test_among(self):
        found = [number for number in range(-5, 9) if is_among(number, -1, 3)]
        self.assertEqual(found, [-1, 0, 1, 2, 3])
        self.assertIs(is_among(thing=2, least=2, most=2), True)
        self.assertIs(is_among(2, 3, 1), False)
        self.assertIs(is_among(2, 1, 3), True)

    def test_among_of_anything(self):
        for thing in things():
            self.assertIs(is_among(thing, 0, 1), type(thing) is int and thing in (0, 1))
            if type(thing) is not int:
                self.assertIs(is_among(1, thing, 2), False)
                self.assertIs(is_among(1, 0, thing), False)


class Names(unittest.TestCase):
    def test_names(self):
        for thing in ("u", "v", "x", "z", "a", "abcdefgh", "uu"):
            self.assertIs(is_name(thing), True)
        self.assertIs(is_name(thing="w"), True)

    def test_no_names(self):
        for thing in ("", "abcdefghi", "U", "uV", "u1", "u\n", "\n", "u ", " u", "u.x", "u_", "\u00e9", "\u0430"):
            self.assertIs(is_name(thing), False, repr(thing))

    def test_no_names_beside_the_small_letters(self):
        for code in range(32, 127):
            self.assertIs(is_name(chr(code)), "a" <= chr(code) <= "z")
        self.assertIs(is_name("`"), False)
        self.assertIs(is_name("{"), False)

    def test_of_anything(self):
        for thing in things():
            self.assertIs(is_name(thing), type(thing) is str and thing in ("x", "u", "total"))

    def test_axes(self):
        self.assertEqual(AXES, ("x", "y"))
        self.assertIs(is_axis("x"), True)
        self.assertIs(is_axis(thing="y"), True)
        for thing in ("", "z", "X", "xy", "x ", "y\n", ("x",), ("x", "y")):
            self.assertIs(is_axis(thing), False)
        for thing in things():
            self.assertIs(is_axis(thing), type(thing) is str and thing == "x")


class Words(unittest.TestCase):
    def test_words(self):
        self.assertEqual(words_of("tell u + 1"), ["tell", "u", "+", "1"])
        self.assertEqual(words_of(row="u"), ["u"])
        self.assertEqual(words_of("a\nb c"), ["a\nb", "c"])
        self.assertEqual(words_of("\n"), ["\n"])
        self.assertEqual(words_of("a\tb"), ["a\tb"])
        self.assertEqual(words_of("a \n b"), ["a", "\n", "b"])

    def test_blanks_that_are_not_one_between(self):
        for row in ("", " ", "  ", " a", "a ", "a  b", " a b", "a b ", "a   b"):
            self.assertIsNone(words_of(row), repr(row))

    def test_of_anything(self):
        for thing in things():
            if type(thing) is str and thing:
                self.assertEqual(words_of(thing), [thing])
            else:
                self.assertIsNone(words_of(thing))

    def test_the_list_is_the_askers_own(self):
        words_of("a b").append("c")
        self.assertEqual(words_of("a b"), ["a", "b"])


if __name__ == "__main__":
    unittest.main()
