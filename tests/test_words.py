import itertools
import re
import unittest

from shadowpost.words import is_name, is_number

FIGURES = "0123456789"
LETTERS = "abcdefghijklmnopqrstuvwxyz"
SIGNS = [chr(code) for code in range(32, 127)] + ["\n"]


class Case(unittest.TestCase):
    def written(self, asked, words):
        for word in words:
            self.assertIs(asked(word), True, repr(word))

    def not_written(self, asked, words):
        for word in words:
            self.assertIs(asked(word), False, repr(word))

    def around(self, asked, word, signs):
        for sign in signs:
            self.not_written(asked, [sign + word, word + sign, word[:1] + sign + word[1:]])


class Numbers(Case):
    def test_ordinary_numbers(self):
        self.written(is_number, ["1", "7", "10", "42", "100", "-1", "-9", "-10", "-305"])

    def test_nought(self):
        self.written(is_number, ["0"])
        self.not_written(is_number, ["-0", "--0", "+0", "0-"])

    def test_no_figures(self):
        self.not_written(is_number, ["", "-", "--", " ", "\n", "- "])

    def test_noughts_ahead(self):
        self.not_written(is_number, ["00", "01", "-00", "-01", "007", "-007", "0000000000", "0123456789"])

    def test_ten_and_eleven_figures(self):
        self.written(is_number, ["1234567890", "9999999999", "1000000000", "-1234567890", "-9999999999"])
        self.not_written(is_number, ["12345678901", "10000000000", "-12345678901", "-10000000000", "1" * 200])

    def test_each_count_of_figures(self):
        for count in range(1, 30):
            self.assertIs(is_number("9" * count), count <= 10)
            self.assertIs(is_number("-" + "9" * count), count <= 10)

    def test_minus_signs_elsewhere(self):
        self.not_written(is_number, ["--1", "1-", "1-1", "-1-", "- 1"])

    def test_other_signs(self):
        self.not_written(is_number, ["+1", "1.0", "1,000", "1_000", "1e5", "0x1", "one", "1/2", "1L"])

    def test_blanks_and_line_ends(self):
        for word in ("0", "1", "12", "-1", "-12", "1234567890"):
            self.around(is_number, word, [" ", "\n", "\t", "  ", "\n\n"])

    def test_each_sign_beside_a_figure(self):
        for sign in SIGNS:
            self.assertIs(is_number(sign), sign in FIGURES, repr(sign))
            self.assertIs(is_number("1" + sign), sign in FIGURES, repr(sign))
            self.assertIs(is_number("1" + sign + "1"), sign in FIGURES, repr(sign))
            self.assertIs(is_number(sign + "1"), sign in "-123456789", repr(sign))

    def test_all_short_words(self):
        form = re.compile("0|-?[1-9][0-9]{0,9}")
        for length in range(6):
            for signs in itertools.product("-+019 \n", repeat=length):
                word = "".join(signs)
                self.assertIs(is_number(word), form.fullmatch(word) is not None, repr(word))

    def test_every_small_number_as_it_is_shown(self):
        self.written(is_number, [str(number) for number in range(-1200, 1201)])


class Names(Case):
    def test_ordinary_names(self):
        self.written(is_name, ["june", "a", "z", "az", "solstice", "midday"])

    def test_one_eight_and_nine_letters(self):
        self.written(is_name, list(LETTERS) + ["abcdefgh", "z" * 8])
        self.not_written(is_name, ["abcdefghi", "z" * 9])

    def test_each_count_of_letters(self):
        for count in range(30):
            self.assertIs(is_name("m" * count), 1 <= count <= 8)

    def test_no_letters(self):
        self.not_written(is_name, ["", " ", "\n", "-", "0"])

    def test_capital_letters(self):
        self.not_written(is_name, ["A", "Z", "June", "junE", "jUne", "JUNE"])

    def test_figures_and_other_signs(self):
        self.not_written(is_name, ["day1", "1day", "1", "a_b", "a-b", "-a", "a.", "_a", "a'b", "`", "{", "@"])

    def test_blanks_and_line_ends(self):
        for word in ("a", "june", "solstic"):
            self.around(is_name, word, [" ", "\n", "\t", "\n\n"])
        self.not_written(is_name, ["solstice\n", "\nsolstice"])

    def test_each_sign_beside_a_letter(self):
        for sign in SIGNS:
            for word in (sign, sign + "a", "a" + sign, "a" + sign + "a"):
                self.assertIs(is_name(word), sign in LETTERS, repr(word))

    def test_nothing_writes_both(self):
        for length in range(5):
            for signs in itertools.product("-01az", repeat=length):
                word = "".join(signs)
                self.assertFalse(is_number(word) and is_name(word), repr(word))
