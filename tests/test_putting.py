import unittest
from itertools import product as every

from fivebases.changes import change
from fivebases.errors import Refused
from fivebases.letters import Letters, of_ratio
from fivebases.partition import partitions, size
from fivebases.putting import put, strip_value, strips
from fivebases.ratio import Ratio
from fivebases.structure import in_base, product
from fivebases.symmetric import Symmetric, one
from samples import BASES, base_functions, like, sample
from shapes import boxes_of

PAIRS = list(every(BASES, repeat=2))
LARGE = 10 ** 30


def monomials_of(g, n):
    """The monomials of a function in n letters, each as often as its multiple tells."""
    return [
        Letters(n, [(exponent, 1)])
        for exponent, coefficient in g.polynomial(n).terms for _ in range(coefficient.n)]


def in_monomials(f, monomials, n):
    """The function of these monomials as letters: its polynomial with them put in."""
    result = Letters(n, [])
    for exponent, coefficient in f.polynomial(len(monomials)).terms:
        term = of_ratio(n, coefficient)
        for monomial, k in zip(monomials, exponent):
            term = term * monomial.power(k)
        result = result + term
    return result


class TestPut(unittest.TestCase):
    def assert_refused(self, reason, f, g):
        with self.assertRaises(Refused) as caught:
            put(f, g)
        self.assertEqual(caught.exception.reason, reason)

    def test_against_monomials_as_letters(self):
        cases = [("e", (2,), 4, 2), ("p", (2,), 3, 3), ("m", (2, 1), 3, 2), ("h", (2,), 3, 2),
                 ("s", (2, 1), 3, 2), ("h", (1,), 4, 4), ("e", (3,), 4, 2), ("m", (1, 1, 1, 1), 5, 2)]
        for base, part, n, most in cases:
            g = one(base, part)
            monomials = monomials_of(g, n)
            for other in BASES:
                for f in base_functions(other, range(most + 1)):
                    expected = in_monomials(f, monomials, n)
                    self.assertEqual(put(f, g).polynomial(n), expected, (str(f), str(g)))

    def test_sums_of_several_degrees_and_the_base(self):
        for base, other in PAIRS:
            f, g = sample(base, range(3)), Symmetric("m", [((2,), 1), ((1,), 1), ((2, 1), 1)])
            result = put(f, in_base(g, other))
            self.assertEqual(result.base, base)
            self.assertEqual(result.polynomial(2), in_monomials(f, monomials_of(g, 2), 2), (base, other))

    def test_power_sums(self):
        for k, j in [(1, 1), (2, 3), (3, 2), (4, 2), (1, 8), (8, 1)]:
            self.assertTrue(like("p", put(one("p", (k,)), one("p", (j,))), one("p", (k * j,))))
        g = Symmetric("p", [((2, 1), Ratio(-2, 3)), ((1,), 5)])
        self.assertEqual(str(put(one("p", (2,)), g)), "5*p[2] - 2/3*p[4,2]")
        self.assertEqual(str(put(one("p", (2, 1)), Symmetric("p", [((1,), 5), ((2,), -1)]))),
                         "25*p[2,1] - 5*p[2,2] - 5*p[4,1] + p[4,2]")

    def test_known_ones(self):
        self.assertEqual(str(put(one("h", (2,)), one("h", (2,)))), "h[4] - h[3,1] + h[2,2]")
        self.assertEqual(str(put(one("s", (2,)), one("s", (2,)))), "s[4] + s[2,2]")
        self.assertEqual(str(put(one("s", (1, 1)), one("e", (2,)))), "s[2,1,1]")
        for base, k, j, text in [
                ("h", 2, 4, "s[8] + s[6,2] + s[4,4]"), ("e", 2, 4, "s[7,1] + s[5,3]"),
                ("h", 4, 2, "s[8] + s[6,2] + s[4,4] + s[4,2,2] + s[2,2,2,2]")]:
            self.assertEqual(str(in_base(put(one(base, (k,)), one("h", (j,))), "s")), text)

    def test_linear_in_the_first_and_keeps_its_products(self):
        for base, other in PAIRS:
            f, k, g = sample(base, range(3)), sample(base, range(3), 1), sample(other, (1, 2), 2)
            q = Ratio(-3, 4)
            self.assertEqual(put(f.scaled(q) + k, g), put(f, g).scaled(q) + put(k, g))
            less = sample(other, (1,), 2) + sample(other, (2,), 1)
            self.assertEqual(put(product(f, k), less), product(put(f, less), put(k, less)))

    def test_the_first_power_sum_changes_nothing(self):
        for base, other in PAIRS:
            f = sample(base, range(1, 9))
            letter = one(other, (1,))
            self.assertTrue(like(base, put(f, letter), f))
            self.assertTrue(like(base, put(in_base(letter, base), f), f))

    def test_zero_and_numbers(self):
        for base, other in PAIRS:
            nothing, f = Symmetric(other, []), sample(base, range(9))
            number = Symmetric(base, [((), f.multiple(()))])
            self.assertFalse(number.is_zero())
            self.assertTrue(like(base, put(f, nothing), number))
            self.assertTrue(like(base, put(number, sample(other, range(1, 9))), number))
            self.assertTrue(like(other, put(nothing, sample(base, range(1, 9))), nothing))
            self.assertTrue(like(base, put(Symmetric(base, []), nothing), Symmetric(base, [])))

    def test_refused(self):
        for base, other in PAIRS:
            number = Symmetric(other, [((), Ratio(1, 2))])
            for n, k in [(3, 3), (8, 2), (2, 5), (1, 8), (5, 2), (8, 8)]:
                f, g = one(base, (n,)), one(other, (k,))
                if n * k > 8:
                    self.assert_refused("degree", f, g)
                    self.assert_refused("degree", f + Symmetric(base, [((), 1)]), g + number)
                else:
                    self.assert_refused("constant", f, g + number)
            for f in (one(base, (8,)), Symmetric(base, [((), 1)]), Symmetric(base, [])):
                self.assert_refused("constant", f, number)
            self.assert_refused("constant", Symmetric(base, []), one(other, (8,)) + number)


def neighbours(box):
    i, j = box
    return {(i - 1, j), (i + 1, j), (i, j - 1), (i, j + 1)}


def is_connected(boxes):
    reached = set(boxes[:1])
    while True:
        more = {box for box in boxes if box not in reached and neighbours(box) & reached}
        if not more:
            return len(reached) == len(boxes)
        reached |= more


def has_square(boxes):
    return any({(i + 1, j), (i, j + 1), (i + 1, j + 1)} <= set(boxes) for i, j in boxes)


def strips_by_trying(part, k):
    found = []
    for rest in partitions(size(part) - k) if k <= size(part) else ():
        if set(boxes_of(rest)) <= set(boxes_of(part)):
            boxes = boxes_of(part, rest)
            if is_connected(boxes) and not has_square(boxes):
                found.append((rest, len({i for i, _ in boxes}) - 1))
    return tuple(found)


class TestStrips(unittest.TestCase):
    def test_against_all_parts_of_the_rim(self):
        for n in range(10):
            for part in partitions(n):
                for k in range(1, n + 3):
                    self.assertEqual(strips(part, k), strips_by_trying(part, k), (part, k))

    def test_known_ones(self):
        self.assertEqual(strips((), 1), ())
        self.assertEqual(strips((1,), 1), (((), 0),))
        self.assertEqual(strips((2, 1), 1), (((2,), 0), ((1, 1), 0)))
        self.assertEqual(strips((2, 1), 2), ())
        self.assertEqual(strips((2, 1), 3), (((), 1),))
        self.assertEqual(strips((3, 3, 1), 3), (((2, 1, 1), 1),))
        self.assertEqual(strips((4, 3, 3, 1), 4), (((4, 3), 1), ((2, 2, 2, 1), 2)))

    def test_large_partitions(self):
        self.assertEqual(strips((LARGE,), LARGE - 1), (((1,), 0),))
        self.assertEqual(strips((LARGE, 1), LARGE + 1), (((), 1),))
        self.assertEqual(strips((1,) * 2000, 1999), (((1,), 1998),))
        self.assertEqual(strips((3, 2), LARGE), ())


class TestStripValue(unittest.TestCase):
    def test_against_the_table_from_p_to_s(self):
        for n in list(range(7)) + [8]:
            table = change(n, "p", "s")
            for by, row in zip(partitions(n), table):
                values = [strip_value(part, by) for part in partitions(n)]
                self.assertEqual([Ratio(value) for value in values], list(row), by)
                self.assertEqual({type(value) for value in values}, {int})

    def test_known_ones(self):
        self.assertEqual([strip_value(part, (1, 1, 1)) for part in partitions(3)], [1, 2, 1])
        self.assertEqual([strip_value(part, (2, 1)) for part in partitions(3)], [1, 0, -1])
        self.assertEqual([strip_value(part, (3,)) for part in partitions(3)], [1, -1, 1])
        self.assertEqual(strip_value((2, 2), (2, 2)), 2)

    def test_both_empty_and_unlike_degrees(self):
        self.assertEqual(strip_value((), ()), 1)
        for part, by in [((), (1,)), ((1,), ()), ((2, 1), (2,)), ((2,), (2, 1)), ((LARGE,), (2,)), ((2,), (LARGE,))]:
            value = strip_value(part, by)
            self.assertEqual((value, type(value)), (0, int), (part, by))

    def test_beyond_the_degree_8(self):
        self.assertEqual(strip_value((4, 3, 2, 1), (1,) * 10), 768)
        self.assertEqual(strip_value((5, 5), (2,) * 5), -10)
        self.assertEqual(strip_value((4, 4), (2,) * 4), 6)
        self.assertEqual(strip_value((LARGE,), (LARGE,)), 1)
        self.assertEqual(strip_value((1,) * 301, (1,) * 301), 1)
        self.assertEqual(strip_value((1,) * 300, (300,)), -1)
        self.assertEqual(strip_value((300, 1), (1,) * 301), 300)


if __name__ == "__main__":
    unittest.main()
