import unittest
from itertools import permutations, product

from fivebases.errors import Fault, Malformed, Refused
from fivebases.letters import Letters, letter, monomials, of_ratio
from fivebases.ratio import Ratio
from values import values_of_all_kinds

X, Y = letter(2, 1), letter(2, 2)


def constant(n, number, below=1):
    return of_ratio(n, Ratio(number, below))


def some_polynomials(n):
    """Polynomials of all shapes in n letters, made from a fixed rule."""
    found = [Letters(n, []), constant(n, 1), constant(n, -3, 2)]
    for seed in range(1, 6):
        pairs = []
        for k, exponent in enumerate(product(range(3), repeat=n)):
            number = (seed * 7 + k * 5) % 11 - 5
            pairs.append((exponent, Ratio(number, 1 + k % 3)))
        found.append(Letters(n, pairs))
    return found


def points(n):
    return [
        tuple(Ratio(k + 1, 2 + j) for j in range(n)) for k in range(2)
    ] + [(Ratio(0),) * n, tuple(Ratio((-1) ** j * (j + 2)) for j in range(n))]


def is_in_form(a):
    exponents = [exponent for exponent, _ in a.terms]
    return (
        type(a.terms) is tuple
        and all(type(pair) is tuple and len(pair) == 2 for pair in a.terms)
        and exponents == sorted(set(exponents), reverse=True)
        and all(type(e) is tuple and len(e) == a.n for e in exponents)
        and all(type(c) is Ratio and c.n != 0 for _, c in a.terms))


class TestTerms(unittest.TestCase):
    def test_terms_in_their_order_without_zeros(self):
        a = Letters(2, [((0, 1), 2), ((2, 0), Ratio(1, 2)), ((0, 1), -2), ((1, 5), 0), ((0, 3), 1), ((2, 0), 1)])
        self.assertEqual(a.n, 2)
        self.assertEqual(a.terms, (((2, 0), Ratio(3, 2)), ((0, 3), Ratio(1))))
        self.assertTrue(is_in_form(a))
        self.assertEqual(Letters(2, tuple(reversed(a.terms))).terms, a.terms)
        self.assertEqual(Letters(3, []).terms, ())
        self.assertEqual(Letters(3, ()).terms, ())
        self.assertEqual(Letters(0, [((), 4), ((), Ratio(1, 2))]).terms, (((), Ratio(9, 2)),))
        self.assertEqual(Letters(8, [((0,) * 8, 1)]).n, 8)

    def test_a_later_change_of_the_pairs_changes_nothing(self):
        pairs = [((1,), 1)]
        a = Letters(1, pairs)
        pairs.append(((0,), 5))
        self.assertEqual(a.terms, (((1,), Ratio(1)),))
        self.assertEqual(pairs, [((1,), 1), ((0,), 5)])

    def assert_refused(self, call, *arguments):
        with self.assertRaises(Refused) as caught:
            call(*arguments)
        self.assertEqual(caught.exception.reason, "letters")

    def test_more_than_eight_letters_are_refused_before_anything_else(self):
        for n in (9, 10, 10 ** 5000):
            self.assert_refused(Letters, n, [])
            self.assert_refused(Letters, n, None)
            self.assert_refused(Letters, n, [((1,), "1")])
            self.assert_refused(letter, n, 1)
            self.assert_refused(letter, n, 0)
            self.assert_refused(letter, n, None)
            self.assert_refused(of_ratio, n, Ratio(1))
            self.assert_refused(of_ratio, n, None)
            self.assert_refused(monomials, n, 1)
            self.assert_refused(monomials, n, -1)

    def test_numbers_of_letters_that_are_none(self):
        for n in values_of_all_kinds():
            if type(n) is int and n >= 0:
                continue
            self.assertRaises(Malformed, Letters, n, [])
            self.assertRaises(Malformed, letter, n, 1)
            self.assertRaises(Malformed, of_ratio, n, Ratio(1))
            self.assertRaises(Malformed, monomials, n, 1)

    def test_pairs_that_are_none(self):
        for value in values_of_all_kinds():
            if value not in ([], ()):
                self.assertRaises(Malformed, Letters, 1, value)
            if value != ((0,), 1) or value[1] is True:
                self.assertRaises(Malformed, Letters, 1, [((1,), 1), value])
                self.assertRaises(Malformed, Letters, 1, (value, ((1,), 1)))
        wrong = [[[(1,), 1]], [((1,), 1, 1)], [((1,),)], "ab", {((1,), 1)}, {(1,): 1}, iter([])]
        for pairs in wrong:
            self.assertRaises(Malformed, Letters, 1, pairs)

    def test_exponents_that_are_none(self):
        wrong = [(), (1,), (1, 2, 3), (1, -1), (-1, 1), (True, 1), (0, False), (1, None), (1, "1"), (1, (1,)),
                 (Ratio(1), 1), [1, 1], "11", None, 11, True, X]
        for exponent in wrong:
            self.assertRaises(Malformed, Letters, 2, [(exponent, 1)])
            self.assertRaises(Malformed, Letters, 2, ((exponent, Ratio(0)),))

    def test_coefficients_that_are_none(self):
        for value in values_of_all_kinds():
            if type(value) in (int, Ratio):
                self.assertTrue(is_in_form(Letters(1, [((1,), value)])))
            else:
                self.assertRaises(Malformed, Letters, 1, [((1,), value)])

    def test_degree_is_zero_and_coefficient(self):
        a = Letters(2, [((3, 0), 1), ((2, 2), -1), ((0, 0), 5)])
        self.assertEqual(a.degree(), 4)
        self.assertEqual(constant(2, 5).degree(), 0)
        self.assertEqual(Letters(2, []).degree(), -1)
        self.assertEqual(Letters(0, []).degree(), -1)
        self.assertIs(a.is_zero(), False)
        self.assertIs((a - a).is_zero(), True)
        self.assertEqual(a.coefficient((2, 2)), Ratio(-1))
        for exponent in [(2, 1), (), (2,), (2, 2, 0), (-1, 0), ("a", None), ([], 1), (False, 0)]:
            self.assertEqual(a.coefficient(exponent), Ratio(0))

    def test_equality(self):
        self.assertIs(X + Y == Y + X, True)
        self.assertIs(X == Y, False)
        self.assertIs(X != Y, True)
        self.assertIs(Letters(1, []) == Letters(2, []), False)
        self.assertIs(Letters(2, []) == Letters(2, ()), True)
        for value in values_of_all_kinds():
            if type(value) is not Letters:
                self.assertIs(Letters(0, []) == value, False)
                self.assertIs(constant(0, 1) == value, False)
                self.assertIs(constant(0, 1) != value, True)


class TestArithmetic(unittest.TestCase):
    def test_examples_of_the_interface(self):
        product_of_two = (letter(2, 1) + letter(2, 2)) * (letter(2, 1) - letter(2, 2))
        self.assertEqual(str(product_of_two), "x1^2 - x2^2")
        self.assertIs((letter(2, 1) * letter(2, 2)).is_symmetric(), True)

    def test_values_of_sums_products_and_powers(self):
        for n in range(4):
            every = some_polynomials(n)
            for a in every:
                for point in points(n):
                    x = a.value(point)
                    self.assertEqual((-a).value(point), -x)
                    self.assertEqual(a.scaled(Ratio(-2, 3)).value(point), x * Ratio(-2, 3))
                    for b in every[1:5]:
                        y = b.value(point)
                        self.assertEqual((a + b).value(point), x + y)
                        self.assertEqual((a - b).value(point), x - y)
                        self.assertEqual((a * b).value(point), x * y)

    def test_results_are_in_form(self):
        for n in range(4):
            every = some_polynomials(n)
            for a in every:
                for b in every:
                    for c in (a + b, a - b, a * b, -a, a.part(2), a.raised(2), a.first(0), a.scaled(Ratio(0))):
                        self.assertTrue(is_in_form(c))
                self.assertEqual(a - a, Letters(n, []))
                self.assertEqual(a * constant(n, 1), a)

    def test_products_term_by_term(self):
        a = Letters(3, [((1, 0, 2), Ratio(1, 2)), ((0, 3, 0), -4), ((0, 0, 0), Ratio(1, 3))])
        b = Letters(3, [((1, 0, 2), 2), ((0, 0, 7), Ratio(5, 6)), ((1, 0, 0), -1)])
        sums = {}
        for e, c in a.terms:
            for f, d in b.terms:
                key = tuple(x + y for x, y in zip(e, f))
                sums[key] = sums.get(key, Ratio(0)) + c * d
        self.assertEqual(a * b, Letters(3, list(sums.items())))
        self.assertEqual((a * b).coefficient((2, 0, 4)), Ratio(1))

    def test_products_that_cancel(self):
        third, half = constant(1, 1, 3), constant(1, 1, 2)
        x = letter(1, 1)
        self.assertEqual((x + half) * (x - half), x * x - constant(1, 1, 4))
        self.assertEqual((x + third) * Letters(1, []), Letters(1, []))
        self.assertEqual(constant(1, 3) * third, constant(1, 1))

    def test_unlike_numbers_of_letters(self):
        for a, b in ((X, letter(3, 1)), (Letters(0, []), Letters(8, [])), (constant(1, 1), constant(2, 1))):
            for one, two in ((a, b), (b, a)):
                self.assertRaises(Malformed, lambda: one + two)
                self.assertRaises(Malformed, lambda: one - two)
                self.assertRaises(Malformed, lambda: one * two)

    def test_powers(self):
        for n in range(3):
            for a in some_polynomials(n):
                power = constant(n, 1)
                for k in range(5):
                    self.assertEqual(a.power(k), power)
                    power = power * a
        self.assertEqual(Letters(2, []).power(0), constant(2, 1))
        self.assertEqual(letter(2, 1).power(10 ** 30).terms, (((10 ** 30, 0), Ratio(1)),))
        self.assertEqual(Letters(1, []).power(10 ** 30), Letters(1, []))
        self.assertEqual(constant(0, -1).power(10 ** 30 + 1), constant(0, -1))

    def test_large_products_and_coefficients(self):
        large = 10 ** 5000
        a = Letters(1, [((large,), large), ((0,), 1)])
        self.assertEqual((a * a).terms, (
            ((2 * large,), Ratio(large * large)), ((large,), Ratio(2 * large)), ((0,), Ratio(1))))
        every = Letters(8, [(exponent, 1) for exponent in monomials(8, 4)])
        self.assertEqual((every * every).coefficient((1,) * 8), Ratio(70))

    def test_parts(self):
        a = Letters(2, [((3, 0), 1), ((2, 1), -1), ((1, 1), 5), ((0, 0), 2)])
        self.assertEqual(a.part(3).terms, (((3, 0), Ratio(1)), ((2, 1), Ratio(-1))))
        self.assertEqual(a.part(0), constant(2, 2))
        self.assertEqual(a.part(1), Letters(2, []))
        self.assertEqual(a.part(-1), Letters(2, []))
        self.assertEqual(a.part(0) + a.part(2) + a.part(3), a)

    def test_value(self):
        a = X * X * Y.scaled(Ratio(1, 2)) + constant(2, 3)
        self.assertEqual(a.value((Ratio(2, 3), Ratio(-1))), Ratio(25, 9) + Ratio(0))
        self.assertEqual(a.value((Ratio(0), Ratio(0))), Ratio(3))
        self.assertEqual(Letters(2, []).value((Ratio(1), Ratio(1))), Ratio(0))
        self.assertEqual(constant(0, 4).value(()), Ratio(4))

    def test_exchanged(self):
        a = Letters(3, [((1, 2, 3), 1), ((4, 0, 0), 2)])
        self.assertEqual(a.exchanged(1, 3), Letters(3, [((3, 2, 1), 1), ((0, 0, 4), 2)]))
        self.assertEqual(a.exchanged(3, 1), a.exchanged(1, 3))
        self.assertEqual(a.exchanged(1, 2), Letters(3, [((2, 1, 3), 1), ((0, 4, 0), 2)]))
        self.assertEqual(a.exchanged(2, 2), a)

    def test_raised(self):
        a = Letters(2, [((1, 2), 3), ((0, 0), 5)])
        self.assertEqual(a.raised(3), Letters(2, [((3, 6), 3), ((0, 0), 5)]))
        self.assertEqual(a.raised(1), a)

    def test_first(self):
        a = Letters(3, [((1, 0, 0), 1), ((1, 1, 0), 2), ((1, 1, 1), 3), ((0, 0, 0), 4)])
        self.assertEqual(a.first(3), a)
        self.assertEqual(a.first(2), Letters(2, [((1, 0), 1), ((1, 1), 2), ((0, 0), 4)]))
        self.assertEqual(a.first(1), Letters(1, [((1,), 1), ((0,), 4)]))
        self.assertEqual(a.first(0), Letters(0, [((), 4)]))

    def test_operations_leave_the_polynomials_as_they_are(self):
        a, b = X + Y.scaled(Ratio(1, 2)), X - Y
        before = (a.n, a.terms, b.n, b.terms)
        for _ in (a + b, a - b, a * b, -a, a.scaled(Ratio(2)), a.power(3), a.part(1), a.exchanged(1, 2),
                  a.raised(2), a.first(1), a.is_symmetric(), a.value((Ratio(1), Ratio(2))), str(a)):
            self.assertEqual((a.n, a.terms, b.n, b.terms), before)


class TestLettersAndMonomials(unittest.TestCase):
    def test_letter(self):
        self.assertEqual(letter(3, 2).terms, (((0, 1, 0), Ratio(1)),))
        self.assertEqual(letter(8, 8).terms, (((0,) * 7 + (1,), Ratio(1)),))

    def test_letters_that_are_none(self):
        for n in range(9):
            for i in (0, -1, n + 1, True, None, "1", (1,), Ratio(1)):
                self.assertRaises(Malformed, letter, n, i)

    def test_of_ratio(self):
        self.assertEqual(of_ratio(2, Ratio(1, 2)).terms, (((0, 0), Ratio(1, 2)),))
        self.assertEqual(of_ratio(0, Ratio(3)).terms, (((), Ratio(3)),))
        self.assertEqual(of_ratio(4, Ratio(0)).terms, ())

    def test_monomials(self):
        for n in range(5):
            for d in range(6):
                every = [e for e in product(range(d + 1), repeat=n) if sum(e) == d]
                self.assertEqual(monomials(n, d), tuple(sorted(every, reverse=True)))
        self.assertEqual(monomials(0, 0), ((),))
        self.assertEqual(monomials(0, 1), ())
        self.assertEqual(monomials(1, 10 ** 30), ((10 ** 30,),))
        self.assertEqual(len(monomials(8, 8)), 6435)
        self.assertIs(type(monomials(8, 1)), tuple)


class TestSymmetry(unittest.TestCase):
    def test_is_symmetric_for_all_exchanges(self):
        for n in range(4):
            for a in some_polynomials(n):
                every = all(a.exchanged(i, j) == a for i in range(1, n + 1) for j in range(1, n + 1))
                self.assertIs(a.is_symmetric(), every)
                sums = Letters(n, [])
                for order in permutations(range(n)):
                    sums = sums + Letters(n, [(tuple(e[k] for k in order), c) for e, c in a.terms])
                self.assertIs(sums.is_symmetric(), True)

    def test_edges(self):
        self.assertIs(Letters(0, []).is_symmetric(), True)
        self.assertIs(constant(8, 3).is_symmetric(), True)
        self.assertIs(letter(1, 1).is_symmetric(), True)
        self.assertIs(X.is_symmetric(), False)
        self.assertIs((X + Y.scaled(Ratio(2))).is_symmetric(), False)
        x, y, z = (letter(3, i) for i in (1, 2, 3))
        self.assertIs((x * y + y * z).is_symmetric(), False)
        self.assertIs((x * y + y * z + z * x).is_symmetric(), True)
        self.assertIs((x + y).is_symmetric(), False)
        self.assertIs((y + z).is_symmetric(), False)
        self.assertIs((x * x * y + y * y * z + z * z * x).is_symmetric(), False)


class TestText(unittest.TestCase):
    def test_the_text(self):
        half = Ratio(1, 2)
        cases = [
            (Letters(2, []), "0"),
            (Letters(0, []), "0"),
            (constant(2, 1), "1"),
            (constant(2, -1), "-1"),
            (constant(0, 5, 3), "5/3"),
            (X, "x1"),
            (-Y, "-x2"),
            (X.scaled(half), "1/2*x1"),
            (-X.scaled(half) * Y * Y, "-1/2*x1*x2^2"),
            (constant(2, 1) - X, "-x1 + 1"),
            (X * X - Y.scaled(Ratio(3)) - constant(2, 1), "x1^2 - 3*x2 - 1"),
            (Letters(2, [((0, 10), 1), ((1, 0), -2), ((0, 0), half)]), "-2*x1 + x2^10 + 1/2"),
            (Letters(8, [((1,) + (0,) * 6 + (2,), -1)]), "-x1*x8^2"),
        ]
        for a, text in cases:
            self.assertEqual(str(a), text)

    def test_numbers_of_any_size(self):
        a = Letters(1, [((10 ** 5000,), -10 ** 4500)])
        self.assertEqual(str(a), "-1" + "0" * 4500 + "*x1^1" + "0" * 5000)

    def test_errors_show_no_numbers_that_python_cannot_print(self):
        large = 10 ** 6000
        for call in (lambda: Letters(large, []), lambda: letter(3, large), lambda: Letters(1, [((-large,), 1)])):
            with self.assertRaises(Fault) as caught:
                call()
            self.assertIsInstance(str(caught.exception), str)
