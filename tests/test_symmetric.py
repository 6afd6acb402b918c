import unittest
from itertools import combinations, combinations_with_replacement, permutations

from fivebases.errors import Fault, Malformed, Refused
from fivebases.letters import Letters, letter, monomials, of_ratio
from fivebases.partition import partitions
from fivebases.ratio import Ratio
from fivebases.symmetric import (
    Symmetric, complete, elementary, monomial_sum, of_polynomial, one, power_sum, read_symmetric, schur)
from reading import ReadingCase
from shapes import every_filling
from values import same, values_of_all_kinds

BASES = "mehps"
LARGE = 10 ** 40
HUGE = 10 ** 5000
SMALL = [part for d in range(5) for part in partitions(d)]


def constant(n, number):
    return of_ratio(n, Ratio(number))


def sum_of_products(n, rows):
    """The sum of the products of letters with the numbers in each row."""
    return Letters(n, [(tuple(row.count(i) for i in range(1, n + 1)), 1) for row in map(list, rows)])


def one_part(base, k, n):
    numbers = range(1, n + 1)
    if base == "e":
        return sum_of_products(n, combinations(numbers, k))
    if base == "h":
        return sum_of_products(n, combinations_with_replacement(numbers, k))
    return sum_of_products(n, [(i,) * k for i in numbers])


def by_definition(base, part, n):
    """The polynomial of point 4.1, by its words."""
    if base == "m":
        if len(part) > n:
            return Letters(n, [])
        return Letters(n, [(e, 1) for e in set(permutations(part + (0,) * (n - len(part))))])
    if base == "s":
        return sum_of_products(n, [sum(rows, ()) for rows in every_filling(part, n)])
    result = constant(n, 1)
    for k in part:
        result = result * one_part(base, k, n)
    return result


def some_functions(base):
    """Functions of a base of several degrees, made from a fixed rule."""
    found = [Symmetric(base, []), one(base, ()), one(base, (2, 1)), one(base, (3, 3, 2))]
    for seed in (1, 2, 3):
        found.append(Symmetric(base, [
            (part, Ratio((seed * 7 + k * 5) % 11 - 5, 1 + (seed + k) % 3))
            for k, part in enumerate(part for d in range(5) for part in partitions(d))]))
    return found


def is_in_form(f):
    parts = [part for part, _ in f.terms]
    expected = [part for d in range(9) for part in partitions(d) if part in parts]
    return (
        type(f.terms) is tuple
        and all(type(term) is tuple and len(term) == 2 for term in f.terms)
        and parts == expected
        and all(type(multiple) is Ratio and multiple.n != 0 for _, multiple in f.terms))


class RefusingCase(unittest.TestCase):
    def assert_refused(self, reason, call, *arguments):
        with self.assertRaises(Refused) as caught:
            call(*arguments)
        self.assertEqual(caught.exception.reason, reason)


class TestPolynomials(RefusingCase):
    def test_all_small_ones_in_no_to_four_letters(self):
        for n in range(5):
            for part in SMALL:
                self.assertEqual(monomial_sum(n, part), by_definition("m", part, n))
                self.assertEqual(schur(n, part), by_definition("s", part, n))
            for k in range(5):
                self.assertEqual(elementary(n, k), one_part("e", k, n))
                self.assertEqual(complete(n, k), one_part("h", k, n))
                if k > 0:
                    self.assertEqual(power_sum(n, k), one_part("p", k, n))

    def test_edges(self):
        for n in range(9):
            for a in (monomial_sum(n, ()), elementary(n, 0), complete(n, 0), schur(n, ())):
                self.assertEqual(a, constant(n, 1))
        for a in (monomial_sum(0, (1,)), elementary(0, 1), complete(0, 1), power_sum(0, 1), schur(0, (1,))):
            self.assertEqual(a, Letters(0, []))
        self.assertEqual(monomial_sum(2, (1, 1, 1)), Letters(2, []))
        self.assertEqual(schur(2, (1, 1, 1)), Letters(2, []))
        self.assertEqual(elementary(2, 3), Letters(2, []))
        self.assertEqual(str(monomial_sum(3, (2, 2))), "x1^2*x2^2 + x1^2*x3^2 + x2^2*x3^2")
        self.assertEqual(str(schur(2, (2, 1))), "x1^2*x2 + x1*x2^2")

    def test_great_degrees_and_many_letters(self):
        self.assertEqual(len(complete(8, 8).terms), 6435)
        self.assertEqual(elementary(8, 8).terms, (((1,) * 8, Ratio(1)),))
        self.assertEqual(len(power_sum(8, 8).terms), 8)
        self.assertEqual(len(monomial_sum(8, (3, 2, 1, 1, 1)).terms), 8 * 7 * 20)
        self.assertEqual(schur(8, (8,)), complete(8, 8))
        self.assertEqual(schur(8, (1,) * 8), elementary(8, 8))
        self.assertEqual(schur(8, (4, 2, 1, 1)).value((Ratio(1),) * 8), Ratio(29700))

    def test_schur_polynomials_are_determinants(self):
        def entry(k):
            return Letters(3, [(exponent, 1) for exponent in monomials(3, k)])

        for d in range(5, 9):
            for part in partitions(d):
                if len(part) > 3:
                    self.assertTrue(schur(3, part).is_zero())
                    continue
                rows = part + (0,) * (3 - len(part))
                a, b, c = [[entry(rows[i] - i + j) for j in range(3)] for i in range(3)]
                self.assertEqual(
                    schur(3, part),
                    a[0] * (b[1] * c[2] - b[2] * c[1]) - a[1] * (b[0] * c[2] - b[2] * c[0])
                    + a[2] * (b[0] * c[1] - b[1] * c[0]))

    def test_other_values_of_part_and_k_come_first(self):
        for value in values_of_all_kinds():
            for n in (3, 9, -1, None, True, "3"):
                if not same(value, ()) and not same(value, (1,)) and not same(value, (2, 1)):
                    self.assertRaises(Malformed, monomial_sum, n, value)
                    self.assertRaises(Malformed, schur, n, value)
                if type(value) is not int or value < 0:
                    self.assertRaises(Malformed, elementary, n, value)
                    self.assertRaises(Malformed, complete, n, value)
                if type(value) is not int or value < 1:
                    self.assertRaises(Malformed, power_sum, n, value)
        for part in [(1, 9), (9, True), (0, 9), [9], (LARGE, 0)]:
            self.assertRaises(Malformed, monomial_sum, 2, part)
            self.assertRaises(Malformed, schur, 2, part)

    def test_degrees_above_eight_come_next(self):
        for n in (3, 9, -1, None, True, "3", LARGE):
            for part in [(9,), (8, 1), (1,) * 9, (LARGE,), (4, 4, 4)]:
                self.assert_refused("degree", monomial_sum, n, part)
                self.assert_refused("degree", schur, n, part)
            for k in (9, 10, LARGE, HUGE):
                for call in (elementary, complete, power_sum):
                    self.assert_refused("degree", call, n, k)

    def test_the_number_of_letters_comes_last(self):
        calls = [(monomial_sum, (2, 1)), (schur, (2, 1)), (monomial_sum, ()), (schur, ()), (elementary, 2),
                 (elementary, 0), (complete, 2), (complete, 0), (power_sum, 2)]
        for call, last in calls:
            for n in (9, 10, HUGE):
                self.assert_refused("letters", call, n, last)
            for n in values_of_all_kinds():
                if type(n) is not int or n < 0:
                    self.assertRaises(Malformed, call, n, last)


class TestTerms(RefusingCase):
    def test_terms_in_their_order_without_zeros(self):
        f = Symmetric("e", [
            ((1, 1), 2), ((3,), Ratio(1, 2)), ((), -1), ((2, 1), 4), ((1, 1), -2), ((3,), 1), ((2,), 0), ((1, 1, 1), 5)])
        self.assertEqual(f.base, "e")
        self.assertEqual(f.terms, (
            ((), Ratio(-1)), ((3,), Ratio(3, 2)), ((2, 1), Ratio(4)), ((1, 1, 1), Ratio(5))))
        every = [(part, 1) for d in range(9) for part in partitions(d)]
        for base in BASES:
            self.assertEqual(Symmetric(base, every[::-1]).terms, tuple((part, Ratio(1)) for part, _ in every))
            self.assertEqual(Symmetric(base, tuple(every)).terms, Symmetric(base, every).terms)
            self.assertEqual(Symmetric(base, []).terms, ())
            self.assertEqual(Symmetric(base, ()).terms, ())
            for f in some_functions(base):
                self.assertTrue(is_in_form(f))

    def test_a_later_change_of_the_pairs_changes_nothing(self):
        pairs = [((1,), 1)]
        f = Symmetric("m", pairs)
        pairs.append(((2,), 5))
        self.assertEqual(f.terms, (((1,), Ratio(1)),))
        self.assertEqual(pairs, [((1,), 1), ((2,), 5)])

    def test_bases_that_are_none(self):
        for value in values_of_all_kinds() + ["M", "mm", "f", " m", ("m",), ["m"], "mehps", "eh", b"m"]:
            if not (isinstance(value, str) and len(value) == 1 and value in BASES):
                for pairs in ([], None, [((9,), 1)]):
                    self.assertRaises(Malformed, Symmetric, value, pairs)
                self.assertRaises(Malformed, one, value, (1,))
                self.assertRaises(Malformed, one, value, (9,))

    def test_pairs_that_are_none(self):
        for value in values_of_all_kinds():
            if not same(value, []) and not same(value, ()):
                self.assertRaises(Malformed, Symmetric, "m", value)
            if not same(value, ((1, 1), (2,))):
                self.assertRaises(Malformed, Symmetric, "m", [((1,), 1), value])
                self.assertRaises(Malformed, Symmetric, "m", (value, ((9,), 1)))
        for pairs in ([[(1,), 1]], [((1,), 1, 1)], [((1,),)], "ab", {((1,), 1)}, {(1,): 1}, iter([]), [()]):
            self.assertRaises(Malformed, Symmetric, "m", pairs)

    def test_partitions_and_multiples_that_are_none(self):
        for value in values_of_all_kinds() + [(1, 2), (2, 0), [1], (1, True), (9, 10), (2, -1)]:
            if not any(same(value, right) for right in [(), (1,), (2, 1)]):
                self.assertRaises(Malformed, Symmetric, "p", [(value, 1)])
                self.assertRaises(Malformed, Symmetric, "p", [((9,), 1), (value, 0)])
                self.assertRaises(Malformed, one, "p", value)
            if type(value) in (int, Ratio):
                self.assertTrue(is_in_form(Symmetric("p", [((1,), value)])))
            else:
                self.assertRaises(Malformed, Symmetric, "p", [((1,), value)])
                self.assertRaises(Malformed, Symmetric, "p", [((9,), 1), ((9,), value)])

    def test_degrees_above_eight_are_refused_behind_all_these(self):
        for part in [(9,), (8, 1), (1,) * 9, (LARGE,), (HUGE, 1)]:
            for multiple in (1, 0, Ratio(1, 2), Ratio(0)):
                self.assert_refused("degree", Symmetric, "m", [((1,), 1), (part, multiple)])
            self.assert_refused("degree", Symmetric, "m", [(part, 1), (part, -1)])
            self.assert_refused("degree", one, "s", part)

    def test_errors_show_no_numbers_that_python_cannot_print(self):
        for call in (lambda: one("m", (HUGE,)), lambda: one("m", (-HUGE,)), lambda: elementary(HUGE, -HUGE)):
            with self.assertRaises(Fault) as caught:
                call()
            self.assertIsInstance(str(caught.exception), str)

    def test_multiple_degree_is_zero_and_part_of(self):
        f = Symmetric("s", [((2, 1), Ratio(1, 2)), ((3,), -1), ((), 4)])
        self.assertEqual(f.multiple((2, 1)), Ratio(1, 2))
        self.assertEqual(f.multiple(()), Ratio(4))
        for part in [(1, 1, 1), (1,), (2,), (9,), (LARGE,), (1, 2), (3, 0), (True, True), [3], None, "3"]:
            self.assertEqual(f.multiple(part), Ratio(0))
        self.assertEqual(one("e", (1,)).multiple((True,)), Ratio(0))
        self.assertEqual([f.degree(), Symmetric("e", []).degree(), one("h", ()).degree()], [3, -1, 0])
        self.assertIs(f.is_zero(), False)
        for base in BASES:
            self.assertIs((one(base, (2,)) - one(base, (2,))).is_zero(), True)
            self.assertIs(one(base, ()).is_zero(), False)
        self.assertEqual(f.part_of(3).terms, f.terms[1:])
        self.assertEqual(f.part_of(0).terms, (((), Ratio(4)),))
        self.assertEqual(f.part_of(3).base, "s")
        for d in (1, 2, 4, 9, -1):
            self.assertEqual(f.part_of(d).terms, ())
            self.assertEqual(f.part_of(d).base, "s")

    def test_one(self):
        for base in BASES:
            for part in SMALL + [(8,), (1,) * 8]:
                self.assertEqual(one(base, part).terms, ((part, Ratio(1)),))
                self.assertEqual(one(base, part).base, base)


class TestMeaning(RefusingCase):
    def test_example_of_the_interface(self):
        self.assertEqual(str(one("e", (2, 1)).meaning()), "m[2,1] + 3*m[1,1,1]")
        self.assertIs(one("h", (2,)) - one("e", (2,)) == one("p", (2,)), True)

    def test_polynomials_by_definition(self):
        for base in BASES:
            for part in SMALL:
                for n in range(5):
                    self.assertEqual(one(base, part).polynomial(n), by_definition(base, part, n), (base, part, n))

    def test_polynomials_of_the_degree_eight(self):
        for part in [(4, 4), (3, 3, 2), (2, 2, 2, 2), (5, 1, 1, 1)]:
            for base in "ehp":
                for n in (3, 8):
                    self.assertEqual(one(base, part).polynomial(n), by_definition(base, part, n))

    def test_polynomials_of_sums_of_terms(self):
        for base in BASES:
            for f in some_functions(base):
                for n in range(4):
                    expected = Letters(n, [])
                    for part, multiple in f.terms:
                        expected = expected + by_definition(base, part, n).scaled(multiple)
                    self.assertEqual(f.polynomial(n), expected)

    def test_numbers_of_letters_that_are_none(self):
        for f in (Symmetric("e", []), one("e", ()), one("s", (2, 1))):
            for n in (9, HUGE):
                self.assert_refused("letters", f.polynomial, n)
            for n in (-1, None, True, "1", (1,), Ratio(1)):
                self.assertRaises(Malformed, f.polynomial, n)

    def test_the_meaning_has_the_same_polynomials(self):
        for base in BASES:
            for f in some_functions(base):
                meaning = f.meaning()
                self.assertEqual(meaning.base, "m")
                self.assertTrue(is_in_form(meaning))
                n = max(f.degree(), 0)
                for k in {0, 1, 2, n}:
                    self.assertEqual(meaning.polynomial(k), f.polynomial(k))
                polynomial = f.polynomial(n)
                for part in [part for d in range(n + 1) for part in partitions(d)]:
                    exponent = part + (0,) * (n - len(part))
                    self.assertEqual(meaning.multiple(part), polynomial.coefficient(exponent))
                self.assertEqual(meaning.meaning().terms, meaning.terms)

    def test_some_meanings(self):
        cases = [
            (one("h", (2, 1)), "m[3] + 2*m[2,1] + 3*m[1,1,1]"),
            (one("p", (2, 1)), "m[3] + m[2,1]"),
            (one("s", (2, 1)), "m[2,1] + 2*m[1,1,1]"),
            (one("m", (2, 1)), "m[2,1]"),
            (one("e", ()) + one("p", (1,)), "m[] + m[1]"),
            (one("p", (2, 2)).scaled(Ratio(-1, 2)), "-1/2*m[4] - m[2,2]"),
            (one("e", (1, 1)) - one("e", (2,)).scaled(Ratio(2)), "m[2]"),
            (one("e", (1,)) - one("e", (1,)), "0"),
        ]
        for f, text in cases:
            self.assertEqual(str(f.meaning()), text)


class TestArithmetic(unittest.TestCase):
    def every(self):
        return [f for base in BASES for f in some_functions(base)[:5]]

    def test_sums_of_like_and_unlike_bases(self):
        every = [(f, f.polynomial(4)) for f in self.every()]
        for f, a in every:
            for g, b in every:
                for h, c in ((f + g, a + b), (f - g, a - b)):
                    self.assertEqual(h.base, f.base if f.base == g.base else "m")
                    self.assertTrue(is_in_form(h))
                    self.assertEqual(h.polynomial(4), c)

    def test_sums_in_one_base_keep_it(self):
        f = Symmetric("h", [((2, 1), 1), ((3,), Ratio(1, 2))])
        g = Symmetric("h", [((2, 1), -1), ((1,), 3)])
        self.assertEqual(str(f + g), "3*h[1] + 1/2*h[3]")
        self.assertEqual(str(f - g), "-3*h[1] + 1/2*h[3] + 2*h[2,1]")
        self.assertEqual(str(f - f), "0")
        self.assertEqual((f - f).base, "h")

    def test_sums_with_zero_of_another_base(self):
        f = one("e", (2,)) + Symmetric("h", [])
        self.assertEqual((f.base, str(f)), ("m", "m[1,1]"))
        g = Symmetric("m", []) - one("p", (1, 1))
        self.assertEqual((g.base, str(g)), ("m", "-m[2] - 2*m[1,1]"))
        self.assertEqual((one("h", (1,)) - one("p", (1,))).terms, ())

    def test_negatives_and_multiples(self):
        for f in self.every():
            for g, q in ((-f, Ratio(-1)), (f.scaled(Ratio(2, 3)), Ratio(2, 3)), (f.scaled(Ratio(0)), Ratio(0))):
                self.assertEqual(g.base, f.base)
                self.assertTrue(is_in_form(g))
                self.assertEqual(g.polynomial(3), f.polynomial(3).scaled(q))
        self.assertEqual(one("p", (1,)).scaled(Ratio(HUGE)).terms, (((1,), Ratio(HUGE)),))

    def test_equality_of_functions_of_unlike_bases(self):
        every = [(f, f.polynomial(8)) for f in self.every()]
        for f, a in every:
            for g, b in every:
                self.assertIs(f == g, a == b)
                self.assertIs(f != g, a != b)
        for base in BASES:
            self.assertIs(one(base, ()) == one("m", ()), True)
            self.assertIs(one(base, (1,)) == one("s", (1,)), True)
            self.assertIs(Symmetric(base, []) == Symmetric("p", []), True)
            self.assertIs(one(base, (2,)) == one(base, (1, 1)), False)
        self.assertIs(one("s", (2,)) == one("h", (2,)), True)
        self.assertIs(one("s", (1, 1)) == one("e", (2,)), True)
        self.assertIs(one("s", (4, 4)) == one("h", (4, 4)) - one("h", (5, 3)), True)
        self.assertIs(one("m", (8,)) == one("p", (8,)), True)
        self.assertIs(one("m", (7, 1)) == one("p", (7, 1)), False)

    def test_equality_with_other_values(self):
        for f in (Symmetric("m", []), one("m", ()), one("e", (2, 1))):
            for value in values_of_all_kinds() + [str(f), f.terms, f.polynomial(3)]:
                if type(value) is not Symmetric:
                    self.assertIs(f == value, False)
                    self.assertIs(f != value, True)

    def test_operations_leave_the_functions_as_they_are(self):
        f, g = Symmetric("e", [((2, 1), Ratio(1, 2)), ((), 3)]), one("s", (2, 2))
        before = (f.base, f.terms, g.base, g.terms)
        for _ in (f + g, f - g, -f, f.scaled(Ratio(2)), f == g, str(f), f.meaning(), f.polynomial(3), f.part_of(3),
                  g.meaning(), g.multiple((2, 2))):
            self.assertEqual((f.base, f.terms, g.base, g.terms), before)


class TestOfPolynomial(RefusingCase):
    def test_functions_come_back(self):
        for base in BASES:
            for f in some_functions(base):
                for n in (max(f.degree(), 0), 8):
                    g = of_polynomial(f.polynomial(n))
                    self.assertEqual(g.base, "m")
                    self.assertEqual(g.terms, f.meaning().terms)

    def test_edges(self):
        for n in range(9):
            self.assertEqual(of_polynomial(Letters(n, [])).terms, ())
            self.assertEqual(of_polynomial(constant(n, 5)).terms, (((), Ratio(5)),))
        self.assertEqual(of_polynomial(letter(1, 1)).terms, (((1,), Ratio(1)),))

    def test_polynomials_that_are_not_symmetric(self):
        x, y = letter(2, 1), letter(2, 2)
        for a in (x, x - y, x * y + x, x * x * x, x + y.scaled(Ratio(2)), letter(8, 8), x * y * y):
            self.assert_refused("symmetric", of_polynomial, a)

    def test_degrees_above_the_number_of_letters(self):
        x, y = letter(2, 1), letter(2, 2)
        for a in (x * x * y + x * y * y, x * x * x + y * y * y + x + y, Letters(1, [((2,), 1), ((0,), 1)]),
                  Letters(1, [((LARGE,), 1)]), power_sum(7, 8)):
            self.assert_refused("letters", of_polynomial, a)


class TestText(ReadingCase):
    def test_the_text(self):
        half = Ratio(1, 2)
        cases = [
            (Symmetric("e", []), "0"),
            (one("m", ()), "m[]"),
            (-one("p", ()), "-p[]"),
            (one("h", ()).scaled(half), "1/2*h[]"),
            (one("s", (2, 1)), "s[2,1]"),
            (-one("s", (3,)), "-s[3]"),
            (Symmetric("e", [((2, 1), -half), ((4,), -1), ((1,) * 8, 3), ((), 1)]),
             "e[] - 1/2*e[2,1] - e[4] + 3*e[1,1,1,1,1,1,1,1]"),
            (Symmetric("m", [((2, 1), 3), ((3,), Ratio(-7, 3)), ((1,), -2)]), "-2*m[1] - 7/3*m[3] + 3*m[2,1]"),
        ]
        for f, text in cases:
            self.assertEqual(str(f), text)
            g = read_symmetric(text)
            self.assertEqual(g.terms, f.terms)
            self.assertEqual(g.base, "m" if text == "0" else f.base)

    def test_reading_back(self):
        for base in BASES:
            for f in some_functions(base):
                g = read_symmetric(str(f))
                self.assertEqual((g.base, g.terms), ("m" if f.is_zero() else base, f.terms))
            for d in range(9):
                for part in partitions(d):
                    f = read_symmetric(f"-5/7*{base}[{','.join(map(str, part))}]")
                    self.assertEqual((f.base, f.terms), (base, ((part, Ratio(-5, 7)),)))

    def test_multiples_of_any_size(self):
        f = Symmetric("p", [((1,), -HUGE), ((2, 1), Ratio(1, HUGE))])
        digits = "1" + "0" * 5000
        self.assertEqual(str(f), f"-{digits}*p[1] + 1/{digits}*p[2,1]")
        self.assertEqual(read_symmetric(str(f)).terms, f.terms)

    def test_spoilt_texts_and_values_that_are_no_strings(self):
        self.assert_reads_neither(read_symmetric, [
            "h[2] - e[2]", "m[1] + p[2]", "m[] + e[1]",
            "m[2] + m[1]", "m[1,1] + m[2]", "m[1] + m[]", "m[1] + m[1]", "m[1] - m[1]", "2*m[1] + 3*m[1]",
            "0*m[1]", "1*m[1]", "-1*m[1]", "-0*m[1]", "m[1] + 0*m[2]", "m[1] + 1*m[2]", "m[1] - 0*m[2]",
            "0 + m[1]", "m[1] + 0", "-0", "00", "1", "2", "-1",
            "m[1]+m[2]", "m[1] +m[2]", "m[1]+ m[2]", "m[1]  + m[2]", "m[1] +  m[2]", " m[1]", "m[1] ", "- m[1]",
            "m [1]", "m[ 1]", "m[1 ]", "m[2, 1]", "2 *m[1]", "2* m[1]", "2 * m[1]", " 0", "0 ", " ", "",
            "m[9]", "m[8,1]", "m[1,1,1,1,1,1,1,1,1]", "m[" + "9" * 5000 + "]", "m[1] + m[9]", "0*m[9]",
            "m[1,2]", "m[0]", "m[1,0]", "m[01]", "m[+1]", "m[-1]", "m[1,]", "m[,1]", "m[,]", "m[1,,1]", "m[1.1]",
            "m[a]", "m[1/2]", "m[\u0661]", "m[\u00b2]", "m[1_0]",
            "m", "m[", "m]", "m[]]", "m[[]", "m[1", "m1]", "[1]", "[]", "m[1]]", "m[[1]]", "m()", "m(1)", "mm[1]",
            "M[1]", "f[1]", "me[1]", "2[1]", "2*[1]",
            "+m[1]", "--m[1]", "m[1] + -m[2]", "m[1] - -m[2]", "m[1] + -2*m[2]", "m[1] - -2*m[2]", "+2*m[1]",
            "2/4*m[1]", "2/1*m[1]", "1/0*m[1]", "02*m[1]", "1/2m[1]", "2m[1]", "*m[1]", "2**m[1]", "2*3*m[1]",
            "m[1]*2", "2/*m[1]", "/2*m[1]", "1.5*m[1]", "x*m[1]",
            "m[1] +", "m[1] + ", "+ m[1]", "m[1] m[2]", "m[1] * m[2]", "m[1] / m[2]", "m[1] + + m[2]",
            "m[1]\n", "\nm[1]", "m[1]\n+ m[2]", "m[1]\t+ m[2]", "m[1] +\u00a0m[2]", "m[1],m[2]", "m[1];", "0\n",
        ])
