import unittest
from fractions import Fraction
from math import gcd

from fivebases.errors import NoText, ZeroDivisor
from fivebases.ratio import Ratio, digits_of, is_integer, number_of, one, read_ratio, total, zero
from reading import ReadingCase
from values import values_of_all_kinds

NUMBERS = [(n, d) for n in range(-6, 7) for d in (-4, -3, -1, 1, 2, 6)]
LARGE = 10 ** 5000 + 7


def decimal_digits(n):
    """The digits one after the other, independent of the program."""
    found = []
    while n:
        n, digit = divmod(n, 10)
        found.append("0123456789"[digit])
    return "".join(found[::-1]) or "0"


class TestNumbers(unittest.TestCase):
    def assert_ratio(self, ratio, fraction):
        self.assertIs(type(ratio), Ratio)
        self.assertIs(type(ratio.n), int)
        self.assertIs(type(ratio.d), int)
        self.assertEqual((ratio.n, ratio.d), (fraction.numerator, fraction.denominator))

    def test_lowest_terms(self):
        for n, d in NUMBERS:
            self.assert_ratio(Ratio(n, d), Fraction(n, d))
        self.assert_ratio(Ratio(6, -4), Fraction(-3, 2))
        self.assert_ratio(Ratio(0, -5), Fraction(0))
        self.assert_ratio(Ratio(5), Fraction(5))
        self.assert_ratio(Ratio(n=4, d=6), Fraction(2, 3))

    def test_a_denominator_of_zero(self):
        for n in (-1, 0, 1, LARGE):
            self.assertRaises(ZeroDivisor, Ratio, n, 0)

    def test_very_large_integers(self):
        ratio = Ratio(6 * LARGE, -4 * LARGE)
        self.assert_ratio(ratio, Fraction(-3, 2))
        self.assert_ratio(Ratio(LARGE, 3) + Ratio(1, LARGE), Fraction(LARGE, 3) + Fraction(1, LARGE))
        self.assertEqual(Ratio(LARGE, 2).floor(), LARGE // 2)
        self.assertEqual(Ratio(LARGE).compare(Ratio(LARGE + 1)), -1)

    def test_sums_differences_products_quotients(self):
        for n, d in NUMBERS:
            a, x = Ratio(n, d), Fraction(n, d)
            self.assert_ratio(-a, -x)
            for m, k in NUMBERS:
                b, y = Ratio(m, k), Fraction(m, k)
                self.assert_ratio(a + b, x + y)
                self.assert_ratio(a - b, x - y)
                self.assert_ratio(a * b, x * y)
                if m:
                    self.assert_ratio(a.over(b), x / y)

    def test_inverse_and_over_of_zero(self):
        self.assert_ratio(Ratio(-3, 2).inverse(), Fraction(-2, 3))
        self.assertRaises(ZeroDivisor, Ratio(0).inverse)
        self.assertRaises(ZeroDivisor, Ratio(1).over, Ratio(0))
        self.assertRaises(ZeroDivisor, Ratio(0).over, Ratio(0))
        self.assert_ratio(Ratio(0).over(Ratio(-2, 3)), Fraction(0))

    def test_power(self):
        for n, d in NUMBERS:
            for k in range(-5, 6):
                if n or k >= 0:
                    self.assert_ratio(Ratio(n, d).power(k), Fraction(n, d) ** k)
        self.assert_ratio(Ratio(0).power(0), Fraction(1))
        for k in (-1, -2, -10 ** 40):
            self.assertRaises(ZeroDivisor, Ratio(0).power, k)
        self.assert_ratio(Ratio(-1).power(10 ** 40 + 1), Fraction(-1))
        self.assert_ratio(Ratio(1).power(-10 ** 40), Fraction(1))
        self.assert_ratio(Ratio(0).power(10 ** 40), Fraction(0))
        self.assert_ratio(Ratio(2, 3).power(300), Fraction(2, 3) ** 300)

    def test_equality(self):
        for n, d in NUMBERS:
            for m, k in NUMBERS:
                self.assertIs(Ratio(n, d) == Ratio(m, k), Fraction(n, d) == Fraction(m, k))
                self.assertIs(Ratio(n, d) != Ratio(m, k), Fraction(n, d) != Fraction(m, k))

    def test_equality_with_values_of_other_kinds(self):
        for ratio in (Ratio(0), Ratio(1), Ratio(1, 2)):
            for value in values_of_all_kinds():
                if type(value) is not Ratio:
                    self.assertIs(ratio == value, False)
                    self.assertIs(ratio != value, True)

    def test_compare_sign_floor(self):
        for n, d in NUMBERS:
            a, x = Ratio(n, d), Fraction(n, d)
            self.assertEqual(a.sign(), (x > 0) - (x < 0))
            self.assertEqual(a.floor(), x.numerator // x.denominator)
            for m, k in NUMBERS:
                y = Fraction(m, k)
                self.assertEqual(a.compare(Ratio(m, k)), (x > y) - (x < y))

    def test_whole_and_is_zero(self):
        for n, d in NUMBERS:
            self.assertIs(Ratio(n, d).whole, n % d == 0)
            self.assertIs(Ratio(n, d).is_zero(), n == 0)
        self.assertIsInstance(Ratio.whole, property)

    def test_zero_one_total(self):
        self.assert_ratio(zero(), Fraction(0))
        self.assert_ratio(one(), Fraction(1))
        self.assert_ratio(total([]), Fraction(0))
        self.assert_ratio(total(()), Fraction(0))
        numbers = [Ratio(1, 2), Ratio(1, 3), Ratio(-5, 6), Ratio(7)]
        self.assert_ratio(total(numbers), Fraction(7))
        self.assert_ratio(total(tuple(numbers[:2])), Fraction(5, 6))
        self.assertEqual(len(numbers), 4)

    def test_operations_leave_the_numbers_as_they_are(self):
        a, b = Ratio(1, 2), Ratio(-2, 3)
        for _ in (a + b, a - b, a * b, -a, a.over(b), a.inverse(), a.power(-3), str(a)):
            self.assert_ratio(a, Fraction(1, 2))
            self.assert_ratio(b, Fraction(-2, 3))

    def test_is_integer(self):
        for value in values_of_all_kinds():
            self.assertIs(is_integer(value), type(value) is int)
        self.assertIs(is_integer(True), False)
        self.assertIs(is_integer(False), False)


class TestWrittenForm(ReadingCase):
    def test_examples_of_the_interface(self):
        self.assertEqual(str(Ratio(1, 2) + Ratio(-2, 3)), "-1/6")
        self.assertRaises(NoText, read_ratio, "2/4")

    def test_the_form_and_reading_it_back(self):
        for n, d in NUMBERS:
            x = Fraction(n, d)
            self.assertEqual(str(Ratio(n, d)), str(x))
            self.assertEqual(read_ratio(str(x)), Ratio(n, d))
        self.assertEqual(str(Ratio(0, 3)), "0")
        self.assertEqual(str(Ratio(-10, 1)), "-10")

    def test_numbers_of_any_size(self):
        sizes = (63, 64, 65, 127, 128, 129, 639, 640, 641, 4299, 4300, 4301, 9001)
        for n in [10 ** k + e for k in sizes for e in (-1, 0, 1)] + [7 ** 12000]:
            text = decimal_digits(n)
            self.assertEqual(digits_of(n), text)
            self.assertEqual(number_of(text), n)
            self.assertEqual(str(Ratio(-n)), "-" + text)
            self.assertEqual(read_ratio("-" + text), Ratio(-n))
        ratio = Ratio(-LARGE, 10 ** 4400)
        text = "-" + decimal_digits(LARGE) + "/1" + "0" * 4400
        self.assertEqual(gcd(LARGE, 10), 1)
        self.assertEqual(str(ratio), text)
        self.assertEqual(read_ratio(text), ratio)

    def test_spoilt_texts_and_values_that_are_no_strings(self):
        spoilt = [
            "2/4", "01", "+1", "-0", "1/1", "1/0", "", " ", " 1", "1 ", "1/ 2", "1 /2", "- 1", "0/1", "0/2", "-0/2",
            "00", "-01", "1/02", "1/-2", "-1/-2", "1/+2", "--1", "-", "/", "1/", "/2", "-/2", "1/2/3", "1//2", "1.0",
            "1e3", "1_000", "0x1", "\u0661", "\u00b2", "1\n", "\n1", "1\x00", "a", "None", "6/3", "0/0",
            "0" * 5000, "0" + "1" * 5000, "1" * 5000 + "a", "2" * 5000 + "/4",
        ]
        self.assert_reads_neither(read_ratio, spoilt)
