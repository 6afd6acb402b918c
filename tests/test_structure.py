import unittest
from itertools import product as every

from fivebases.errors import Refused
from fivebases.fillings import fillings_to
from fivebases.letters import Letters
from fivebases.partition import holds, joined, partitions, turned, z_number
from fivebases.ratio import Ratio, total, zero
from fivebases.structure import in_base, inner, product, skewed, split, turned_function
from fivebases.symmetric import Symmetric, one
from samples import BASES, base_functions, like, sample
from values import values_of_all_kinds

PAIRS = list(every(BASES, repeat=2))
NONE = Symmetric("m", [])


def parts_to(n):
    return [part for k in range(n + 1) for part in partitions(k)]


class TestInBase(unittest.TestCase):
    def test_all_pairs_of_bases(self):
        for base, other in PAIRS:
            for f in base_functions(base, range(5)) + [sample(base, range(5)), sample(base, (8,))]:
                g = in_base(f, other)
                self.assertEqual(g.base, other)
                self.assertEqual(g.meaning().terms, f.meaning().terms, (str(f), other))
                self.assertTrue(like(base, in_base(g, base), f))

    def test_polynomials_stay(self):
        for base, other in PAIRS:
            f = sample(base, range(5))
            self.assertEqual(in_base(f, other).polynomial(4), f.polynomial(4), (base, other))

    def test_known_ones(self):
        self.assertEqual(str(in_base(one("e", (2, 1)), "m")), "m[2,1] + 3*m[1,1,1]")
        self.assertEqual(str(in_base(one("h", (3,)), "p")), "1/3*p[3] + 1/2*p[2,1] + 1/6*p[1,1,1]")
        self.assertEqual(str(in_base(one("m", (1, 1)), "h")), "-h[2] + h[1,1]")
        self.assertEqual(str(in_base(one("p", (2, 1)), "s")), "s[3] - s[1,1,1]")
        self.assertEqual(str(in_base(one("s", (2, 2)), "e")), "-e[3,1] + e[2,2]")

    def test_zero_and_numbers(self):
        for base, other in PAIRS:
            self.assertTrue(like(other, in_base(Symmetric(base, []), other), Symmetric(other, [])))
            self.assertEqual(str(in_base(Symmetric(base, [((), Ratio(-2, 3))]), other)), f"-2/3*{other}[]")

    def test_other_bases_are_refused(self):
        for f in (one("e", (2, 1)), NONE):
            for value in values_of_all_kinds() + ["M", "ms", " m", "x", ("m",)]:
                if value != "m":
                    with self.assertRaises(Refused) as caught:
                        in_base(f, value)
                    self.assertEqual(caught.exception.reason, "base")


class TestProduct(unittest.TestCase):
    def test_against_polynomials(self):
        for base, other in PAIRS:
            for k in range(1, 3):
                for f in base_functions(base, (k,)):
                    for g in base_functions(other, range(4 - k)):
                        result = product(f, g)
                        self.assertEqual(result.base, base)
                        self.assertEqual(result.polynomial(3), f.polynomial(3) * g.polynomial(3), (str(f), str(g)))

    def test_samples_against_polynomials(self):
        for base, other in PAIRS:
            f, g = sample(base, range(3)), sample(other, range(4), 1)
            self.assertEqual(product(f, g).polynomial(5), f.polynomial(5) * g.polynomial(5), (base, other))
            self.assertEqual(product(f, g).base, base)

    def test_the_greatest_degree(self):
        for base, other in PAIRS:
            f, g = sample(base, (5,)), sample(other, (0, 3), 2)
            self.assertEqual(product(f, g).polynomial(3), f.polynomial(3) * g.polynomial(3), (base, other))
            self.assertEqual(product(f, g), product(g, f))

    def test_parts_are_joined(self):
        for base in "ehp":
            for part, other in every(parts_to(4), repeat=2):
                expected = one(base, joined(part, other))
                self.assertTrue(like(base, product(one(base, part), one(base, other)), expected))

    def test_known_ones(self):
        self.assertEqual(str(product(one("s", (2, 1)), one("s", (1,)))), "s[3,1] + s[2,2] + s[2,1,1]")
        self.assertEqual(str(product(one("m", (1,)), one("m", (1,)))), "m[2] + 2*m[1,1]")
        self.assertEqual(str(product(one("e", (2,)), one("p", (2,)))), "-2*e[2,2] + e[2,1,1]")

    def test_zero(self):
        for base, other in PAIRS:
            for f in (one(base, (8,)), sample(base, range(9)), Symmetric(base, [])):
                nothing = Symmetric(other, [])
                self.assertTrue(like(base, product(f, nothing), Symmetric(base, [])))
                self.assertTrue(like(other, product(nothing, f), nothing))

    def test_numbers(self):
        for base, other in PAIRS:
            f = sample(base, (8,))
            number = Symmetric(other, [((), Ratio(-3, 2))])
            self.assertTrue(like(base, product(f, number), f.scaled(Ratio(-3, 2))))

    def test_degrees_above_8_are_refused(self):
        for base, other in PAIRS:
            for n, k in [(8, 1), (1, 8), (4, 5), (8, 8)]:
                f, g = sample(base, (0, n)), one(other, (k,))
                with self.assertRaises(Refused) as caught:
                    product(f, g)
                self.assertEqual(caught.exception.reason, "degree")


class TestInner(unittest.TestCase):
    def test_complete_and_monomial(self):
        for n in range(6):
            for part, other in every(partitions(n), repeat=2):
                expected = Ratio(int(part == other))
                self.assertEqual(inner(one("h", part), one("m", other)), expected, (part, other))
                self.assertEqual(inner(one("m", part), one("h", other)), expected)

    def test_the_greatest_degree(self):
        for base, other in ["hm", "mh", "ss", "pp"]:
            f = sample(other, (8,))
            for part in partitions(8):
                expected = f.multiple(part) * Ratio(z_number(part) if base == "p" else 1)
                self.assertEqual(inner(one(base, part), f), expected, (base, part))

    def test_schur_and_power_sums(self):
        for n in range(7):
            for part, other in every(partitions(n), repeat=2):
                same = int(part == other)
                self.assertEqual(inner(one("s", part), one("s", other)), Ratio(same))
                self.assertEqual(inner(one("p", part), one("p", other)), Ratio(same * z_number(part)))

    def test_linear_and_symmetric(self):
        for base, other in PAIRS:
            f, g, k = sample(base, range(5)), sample(base, range(6), 1), sample(other, range(5), 2)
            q = Ratio(-5, 7)
            value = inner(f.scaled(q) + g, k)
            self.assertIsInstance(value, Ratio)
            self.assertEqual(value, inner(f, k) * q + inner(g, k))
            self.assertEqual(inner(k, f.scaled(q) + g), value)

    def test_of_all_bases_by_complete_and_monomial(self):
        for base, other in PAIRS:
            f, g = sample(base, range(7)), sample(other, range(7), 1)
            by_h, by_m = in_base(f, "h"), g.meaning()
            expected = total([multiple * by_m.multiple(part) for part, multiple in by_h.terms])
            self.assertEqual(inner(f, g), expected)

    def test_unlike_degrees_and_zero(self):
        for base, other in PAIRS:
            self.assertEqual(inner(sample(base, (3, 5)), sample(other, (0, 4, 8))), zero())
            self.assertEqual(inner(Symmetric(base, []), sample(other, range(4))), zero())
            self.assertEqual(inner(Symmetric(base, []), Symmetric(other, [])), zero())
            self.assertEqual(inner(Symmetric(base, [((), 3)]), Symmetric(other, [((), 5), ((1,), 1)])), Ratio(15))


class TestTurnedFunction(unittest.TestCase):
    def test_elementary_and_complete(self):
        for part in parts_to(6) + [(8,), (4, 3, 1), (1,) * 8]:
            self.assertEqual(turned_function(one("e", part)), one("h", part))
            self.assertEqual(turned_function(one("h", part)), one("e", part))

    def test_schur_and_power_sums(self):
        for part in parts_to(6) + [(8,), (4, 3, 1), (1,) * 8]:
            expected = one("s", turned(part))
            self.assertTrue(like("s", turned_function(one("s", part)), expected))
            sign = Ratio(-1).power(sum(part) - len(part))
            self.assertTrue(like("p", turned_function(one("p", part)), one("p", part).scaled(sign)))

    def test_twice_turned_and_the_base(self):
        for base in BASES:
            for f in (sample(base, range(6)), sample(base, (8,)), Symmetric(base, [])):
                result = turned_function(f)
                self.assertEqual(result.base, base)
                self.assertTrue(like(base, turned_function(result), f))

    def test_sums_and_products(self):
        for base, other in PAIRS:
            f, g = sample(base, range(4)), sample(other, range(4), 1)
            self.assertEqual(turned_function(f + g), turned_function(f) + turned_function(g))
            expected = product(turned_function(f), turned_function(g))
            self.assertEqual(turned_function(product(f, g)), expected)
            self.assertEqual(inner(turned_function(f), turned_function(g)), inner(f, g))

    def test_known_ones(self):
        self.assertEqual(str(turned_function(one("m", (2,)))), "-m[2]")
        self.assertEqual(str(turned_function(one("m", (1, 1)))), "m[2] + m[1,1]")
        self.assertEqual(str(turned_function(one("e", (2,)))), "-e[2] + e[1,1]")
        self.assertEqual(str(turned_function(Symmetric("h", [((), 5), ((1,), 2)]))), "5*h[] + 2*h[1]")


def letters_of_shape(outer, inner_part, n):
    """The sum of the fillings of a shape as a polynomial in n letters."""
    pairs = []
    for rows in fillings_to(outer, n, inner_part):
        numbers = [x for row in rows for x in row]
        pairs.append((tuple(numbers.count(i + 1) for i in range(n)), 1))
    return Letters(n, pairs)


class TestSkewed(unittest.TestCase):
    def test_the_inner_product_of_products(self):
        for base, other in PAIRS:
            f, g = sample(base, (2, 3, 4)), sample(other, (0, 1, 2), 1)
            result = skewed(f, g)
            self.assertEqual(result.base, base)
            for k in base_functions("s", range(5)):
                self.assertEqual(inner(result, k), inner(f, product(g, k)), (base, other, str(k)))

    def test_the_greatest_degree(self):
        for base, other in PAIRS:
            f, g, k = sample(base, (8,)), sample(other, (5,), 1), sample("p", (3,), 2)
            self.assertEqual(inner(skewed(f, g), k), inner(f, product(g, k)))

    def test_schur_against_fillings(self):
        for part, other in every(parts_to(4), repeat=2):
            result = skewed(one("s", part), one("s", other))
            self.assertEqual(result.base, "s")
            if holds(part, other):
                self.assertEqual(result.polynomial(4), letters_of_shape(part, other, 4), (part, other))
            else:
                self.assertTrue(result.is_zero(), (part, other))

    def test_derivatives(self):
        self.assertEqual(str(skewed(one("p", (2, 2, 2, 1)), one("p", (2,)))), "6*p[2,2,1]")
        self.assertEqual(str(skewed(one("p", (3, 2, 2)), one("p", (3,)))), "3*p[2,2]")
        self.assertEqual(str(skewed(one("p", (2, 2, 1)), one("p", (2, 2)))), "8*p[1]")
        self.assertTrue(skewed(one("p", (3, 2)), one("p", (1,))).is_zero())
        self.assertTrue(skewed(one("p", (3, 2)), one("p", (3, 3))).is_zero())

    def test_by_a_product_is_by_one_after_the_other(self):
        for base in BASES:
            f, g, k = sample(base, (6,)), sample("s", (1, 2)), sample("m", (0, 2), 1)
            self.assertEqual(skewed(f, product(g, k)), skewed(skewed(f, g), k))

    def test_zero_numbers_and_greater_degrees(self):
        for base, other in PAIRS:
            f = sample(base, range(4))
            self.assertTrue(like(base, skewed(f, Symmetric(other, [])), Symmetric(base, [])))
            self.assertTrue(like(base, skewed(Symmetric(base, []), sample(other, (5,))), Symmetric(base, [])))
            self.assertTrue(like(base, skewed(f, sample(other, (4, 5))), Symmetric(base, [])))
            number = Symmetric(other, [((), Ratio(2, 5))])
            self.assertTrue(like(base, skewed(f, number), f.scaled(Ratio(2, 5))))


def beside(a, b):
    """The product of polynomials in two sets of letters."""
    return Letters(a.n + b.n, [
        (exponent + other, coefficient * more)
        for exponent, coefficient in a.terms for other, more in b.terms])


def sum_of_split(triples, base, n):
    result = Letters(2 * n, [])
    for part, other, multiple in triples:
        result = result + beside(one(base, part).polynomial(n), one(base, other).polynomial(n)).scaled(multiple)
    return result


def place(triple):
    part, other, _ = triple
    return (sum(part) + sum(other), sum(part), [-x for x in part], [-x for x in other])


class TestSplit(unittest.TestCase):
    def test_against_polynomials_in_two_sets(self):
        for base, other in PAIRS:
            for f in base_functions(base, range(4)) + [sample(base, range(4))]:
                triples = split(f, other)
                self.assertEqual(sum_of_split(triples, other, 3), f.polynomial(6), (str(f), other))

    def test_degree_4_in_four_letters_each(self):
        for base, other in PAIRS:
            f = sample(base, (4,))
            self.assertEqual(sum_of_split(split(f, other), other, 4), f.polynomial(8), (base, other))

    def test_order_and_no_zeros(self):
        for base, other in PAIRS:
            for f in (sample(base, (0, 3, 5)), one(base, (2, 2, 2))):
                triples = split(f, other)
                self.assertIsInstance(triples, tuple)
                places = [place(triple) for triple in triples]
                self.assertTrue(all(a < b for a, b in zip(places, places[1:])), (str(f), other))
                for part, other_part, multiple in triples:
                    self.assertIsInstance(multiple, Ratio)
                    self.assertFalse(multiple.is_zero())
                    self.assertIn(sum(part) + sum(other_part), [sum(p) for p, _ in f.terms])

    def test_multiples_by_the_inner_product(self):
        f = sample("m", (6, 7, 8))
        multiples = {(part, other): multiple for part, other, multiple in split(f, "s")}
        for part, other in [((4, 2), (1, 1)), ((), (8,)), ((2, 1), (2, 1)), ((1, 1, 1), (3, 1)), ((7,), ())]:
            expected = inner(f, product(one("s", part), one("s", other)))
            self.assertEqual(multiples.get((part, other), zero()), expected)

    def test_schur_by_schur(self):
        for whole in parts_to(4) + [(3, 2, 1)]:
            multiples = {(part, other): multiple for part, other, multiple in split(one("s", whole), "s")}
            n = sum(whole)
            for k in range(n + 1):
                for part, other in every(partitions(k), partitions(n - k)):
                    expected = zero()
                    if holds(whole, part):
                        expected = product(one("s", part), one("s", other)).multiple(whole)
                    self.assertEqual(multiples.get((part, other), zero()), expected, (whole, part, other))

    def test_known_ones(self):
        two, half = (2,), Ratio(1, 2)
        self.assertEqual(split(one("p", (3,)), "p"), (((), (3,), Ratio(1)), ((3,), (), Ratio(1))))
        self.assertEqual(split(one("p", (1, 1)), "p"), (
            ((), (1, 1), Ratio(1)), ((1,), (1,), Ratio(2)), ((1, 1), (), Ratio(1))))
        self.assertEqual(split(one("h", two), "p"), (
            ((), two, half), ((), (1, 1), half), ((1,), (1,), Ratio(1)), (two, (), half), ((1, 1), (), half)))
        self.assertEqual(split(Symmetric("e", [((), 3), ((1,), 2)]), "m"), (
            ((), (), Ratio(3)), ((), (1,), Ratio(2)), ((1,), (), Ratio(2))))
        self.assertEqual(split(NONE, "s"), ())

    def test_other_bases_are_refused(self):
        for f in (one("h", (2,)), NONE):
            for value in values_of_all_kinds() + ["S", "sp"]:
                if value != "m":
                    with self.assertRaises(Refused) as caught:
                        split(f, value)
                    self.assertEqual(caught.exception.reason, "base")


class TestArguments(unittest.TestCase):
    def test_functions_stay_as_they_are(self):
        f, g = sample("s", (1, 2)), sample("e", (1, 2), 1)
        before = (f.terms, g.terms)
        for done in (product, inner, skewed):
            self.assertEqual(done(f, g), done(f, g))
        in_base(f, "h"), turned_function(f), split(f, "e")
        self.assertEqual((f.terms, g.terms), before)
        self.assertEqual((f.base, g.base), ("s", "e"))


if __name__ == "__main__":
    unittest.main()
