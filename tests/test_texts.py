import string
import unittest

from latefare.errors import FareError, NoRow
from latefare.texts import read_name, read_number, read_words

SIGNS = [chr(code) for code in range(ord(" "), ord("~") + 1)] + ["\t", "\n", "\r"]


class TextsTest(unittest.TestCase):
    def refuse(self, read, texts):
        for text in texts:
            with self.subTest(read=read.__name__, text=text):
                with self.assertRaises(FareError) as raised:
                    read(text)
                self.assertIs(type(raised.exception), NoRow)


class WordsTest(TextsTest):
    def check(self, row, words):
        with self.subTest(row=row):
            self.assertEqual(read_words(row), words)
            self.assertIs(type(read_words(row)), list)

    def test_words(self):
        self.check("a", ["a"])
        self.check("class first 300", ["class", "first", "300"])
        self.check("turn 1 2 3", ["turn", "1", "2", "3"])
        self.check("a " * 500 + "a", ["a"] * 501)
        self.check("x" * 5000, ["x" * 5000])

    def test_any_sign_but_a_blank_is_a_sign_of_a_word(self):
        for sign in SIGNS[1:]:
            self.check(sign, [sign])
            self.check(f"a{sign}b c", [f"a{sign}b", "c"])
            self.check(f"{sign} a {sign}", [sign, "a", sign])

    def test_tabs_and_line_ends_part_nothing(self):
        self.check("a\tb", ["a\tb"])
        self.check("a\nb c\n", ["a\nb", "c\n"])
        self.check("\t \n", ["\t", "\n"])
        self.check("\n\n\t\t", ["\n\n\t\t"])
        self.check("a \n b", ["a", "\n", "b"])

    def test_no_row(self):
        self.refuse(read_words, ["", " ", "  ", "   ", " a", "a ", " a ", "  a", "a  ", " \t", "\n "])
        self.refuse(read_words, ["a  b", "a b  c", "a   b", "a  \n"])

    def test_the_list_given_is_the_askers_own(self):
        given = read_words("a b")
        given.append("c")
        given[0] = "d"
        self.check("a b", ["a", "b"])


class NumberTest(TextsTest):
    def test_numbers(self):
        for number in list(range(1100)) + [9999, 10000, 99999, 100000, 999999, 1000000, 1000001, 9999998, 9999999]:
            told = read_number(str(number))
            self.assertEqual(told, number)
            self.assertIs(type(told), int)

    def test_a_0_ahead(self):
        self.refuse(read_number, ["00", "01", "000", "007", "0000000", "0123456", "00000000"])

    def test_one_to_seven_figures(self):
        for many in range(1, 8):
            self.assertEqual(read_number("9" * many), 10 ** many - 1)
            self.assertEqual(read_number("1" + "0" * (many - 1)), 10 ** (many - 1))
        self.refuse(read_number, ["", "10000000", "99999999", "12345678", "1" * 40, "9" * 5000])

    def test_signs_and_blanks(self):
        self.refuse(read_number, ["-1", "+1", "-0", "+0", "-", "+", "--1"])
        self.refuse(read_number, [" 1", "1 ", "1 2", "\t1", "1\t", "1\n", "\n1", " ", "\n"])

    def test_other_signs(self):
        self.refuse(read_number, ["1_0", "1_000", "1.0", "1e3", "0x1", "0b1", "0o7", "1,0"])
        self.refuse(read_number, ["a", "one", "1a", "a1", "None"])
        for sign in SIGNS:
            if sign not in string.digits:
                self.refuse(read_number, [sign, sign + "1", "1" + sign, "1" + sign + "1"])


class NameTest(TextsTest):
    def test_names(self):
        for letter in string.ascii_lowercase:
            for many in range(1, 9):
                self.assertEqual(read_name(letter * many), letter * many)
        for name in ("first", "a", "abcdefgh", "class", "open", "quiet", "none", "zyxwvuts"):
            self.assertEqual(read_name(name), name)

    def test_length(self):
        self.refuse(read_name, ["", "abcdefghi", "a" * 9, "a" * 40, "z" * 5000])

    def test_other_signs(self):
        self.refuse(read_name, ["A", "First", "firsT", "FIRST", "a1", "1", "1a", "12"])
        self.refuse(read_name, ["a_b", "a-b", "a b", " a", "a ", "a\n", "\ta"])
        for sign in SIGNS:
            if sign not in string.ascii_lowercase:
                self.refuse(read_name, [sign, sign + "a", "a" + sign, "a" + sign + "a"])


if __name__ == "__main__":
    unittest.main()
