import unittest
from itertools import product
from math import comb, factorial

from fivebases.changes import change, converted, mergings, monomial_row, whole_matrices, zero_one_matrices
from fivebases.errors import Malformed, Refused
from fivebases.fillings import count_fillings
from fivebases.partition import multiplicity, partitions, turned
from fivebases.ratio import Ratio, total
from fivebases.symmetric import Symmetric, one
from values import values_of_all_kinds

BASES = "mehps"
PAIRS = [(a, b) for a in BASES for b in BASES]
LARGE = 10 ** 40
HUGE = 10 ** 6000


def matrices_by_trying(rows, columns, items):
    count = 0
    for numbers in product(items, repeat=len(rows) * len(columns)):
        table = [numbers[i * len(columns):(i + 1) * len(columns)] for i in range(len(rows))]
        count += tuple(map(sum, table)) == rows and tuple(sum(row[j] for row in table)
                                                          for j in range(len(columns))) == columns
    return count


def mergings_by_trying(parts, sums):
    count = 0
    for places in product(range(len(sums)), repeat=len(parts)):
        found = [0] * len(sums)
        for part, place in zip(parts, places):
            found[place] += part
        count += tuple(found) == sums
    return count


def tuples(length, numbers):
    return [row for n in range(length + 1) for row in product(numbers, repeat=n)]


def times(one_table, two_table):
    columns = list(zip(*two_table))
    return tuple(
        tuple(total([a * b for a, b in zip(row, column)]) for column in columns) for row in one_table)


def unit(n):
    many = len(partitions(n))
    return tuple(tuple(Ratio(int(i == j)) for j in range(many)) for i in range(many))


def numbers(row):
    return [str(x) for x in row]


class TestMatrices(unittest.TestCase):
    def test_example_of_the_interface(self):
        self.assertEqual(whole_matrices((1, 1), (1, 1)), 2)

    def test_small_sums_in_any_order_with_zeros(self):
        for rows in tuples(3, (0, 1, 2)):
            for columns in tuples(2, (0, 1, 2, 3)):
                expected = matrices_by_trying(rows, columns, (0, 1))
                self.assertEqual(zero_one_matrices(rows, columns), expected, (rows, columns))
                self.assertEqual(zero_one_matrices(columns, rows), expected)
                if sum(rows) <= 4 and len(rows) * len(columns) <= 4:
                    expected = matrices_by_trying(rows, columns, range(4))
                    self.assertEqual(whole_matrices(rows, columns), expected, (rows, columns))
                    self.assertEqual(whole_matrices(columns, rows), expected)

    def test_tuples_without_items(self):
        for count in (zero_one_matrices, whole_matrices):
            for other in [(), (0,), (0, 0, 0)]:
                self.assertEqual(count((), other), 1)
                self.assertEqual(count(other, ()), 1)
            for other in [(1,), (0, 1), (LARGE,)]:
                self.assertEqual(count((), other), 0)
                self.assertEqual(count(other, ()), 0)
        self.assertEqual(mergings((), ()), 1)
        for other in [(1,), (1, 1), (LARGE,), (0,)]:
            self.assertEqual(mergings((), other), 0)
            self.assertEqual(mergings(other, ()), 0)

    def test_larger_sums(self):
        self.assertEqual(zero_one_matrices((1,) * 12, (1,) * 12), factorial(12))
        self.assertEqual(whole_matrices((1,) * 12, (1,) * 12), factorial(12))
        self.assertEqual(zero_one_matrices((2,) * 5, (2,) * 5), 2040)
        self.assertEqual(whole_matrices((2,) * 4, (2,) * 4), 282)
        self.assertEqual(whole_matrices((40, 60), (50, 50)), 41)
        self.assertEqual(zero_one_matrices((10,), (1,) * 10), 1)
        self.assertEqual(zero_one_matrices((10, 10), (1,) * 20), comb(20, 10))

    def test_large_sums(self):
        self.assertEqual(whole_matrices((LARGE,), (LARGE,)), 1)
        self.assertEqual(whole_matrices((LARGE, 1), (1, LARGE)), 2)
        self.assertEqual(whole_matrices((LARGE,), (1,)), 0)
        self.assertEqual(zero_one_matrices((LARGE,), (LARGE,)), 0)
        self.assertEqual(mergings((LARGE, LARGE, 1), (2 * LARGE, 1)), 1)

    def test_mergings(self):
        for parts in tuples(4, (1, 2, 3)):
            for sums in tuples(2, (1, 2, 3, 4, 5)):
                self.assertEqual(mergings(parts, sums), mergings_by_trying(parts, sums), (parts, sums))
        for parts in [(1, 1, 2), (2, 1, 1), (3, 1, 1, 1), (2, 2, 1, 1)]:
            for sums in tuples(4, (1, 2, 3)):
                self.assertEqual(mergings(parts, sums), mergings_by_trying(parts, sums))
        self.assertEqual(mergings((1,) * 20, (10, 10)), comb(20, 10))
        self.assertEqual(mergings((1,) * 20, (1,) * 20), factorial(20))


class TestRows(unittest.TestCase):
    def test_the_numbers_of_the_rows(self):
        for n in range(9):
            for part in partitions(n):
                self.assertEqual(monomial_row("m", part), tuple(Ratio(int(x == part)) for x in partitions(n)))
                for base, count in (("e", zero_one_matrices), ("h", whole_matrices), ("s", count_fillings)):
                    expected = tuple(Ratio(count(part, other)) for other in partitions(n))
                    self.assertEqual(monomial_row(base, part), expected)
                if n > 0:
                    expected = tuple(Ratio(mergings(part, other)) for other in partitions(n))
                    self.assertEqual(monomial_row("p", part), expected)

    def test_small_rows_by_trying(self):
        for n in range(5):
            for part in partitions(n):
                rows = {base: [] for base in "ehp"}
                for other in partitions(n):
                    if len(part) * len(other) <= 9:
                        rows["e"].append((other, matrices_by_trying(part, other, (0, 1))))
                        rows["p"].append((other, mergings_by_trying(part, other)))
                    if len(part) * len(other) <= 4:
                        rows["h"].append((other, matrices_by_trying(part, other, range(n + 1))))
                for base, found in rows.items():
                    row = dict(zip(partitions(n), monomial_row(base, part)))
                    for other, count in found:
                        self.assertEqual(row[other], Ratio(count), (base, part, other))

    def test_kinds_of_values(self):
        for base in BASES:
            row = monomial_row(base, (2, 1))
            self.assertIs(type(row), tuple)
            self.assertTrue(all(type(x) is Ratio for x in row))
            self.assertEqual(monomial_row(base, ()), (Ratio(1),))
        self.assertEqual(numbers(monomial_row("p", (2, 1, 1))), ["1", "2", "2", "2", "0"])


class TestTriangles(unittest.TestCase):
    def test_the_triangles(self):
        for n in range(9):
            parts = partitions(n)
            for i, part in enumerate(parts):
                s, p, e = (monomial_row(base, part) for base in "spe")
                self.assertEqual(s[i], Ratio(1))
                self.assertTrue(all(x.is_zero() for x in s[:i]))
                equal = 1
                for k in set(part):
                    equal *= factorial(multiplicity(part, k))
                self.assertEqual(p[i], Ratio(equal))
                self.assertTrue(all(x.is_zero() for x in p[i + 1:]))
                at = parts.index(turned(part))
                self.assertEqual(e[at], Ratio(1))
                self.assertTrue(all(x.is_zero() for x in e[:at]))

    def test_complete_functions_by_schur_functions(self):
        for n in range(9):
            self.assertEqual(change(n, "h", "s"), tuple(zip(*change(n, "s", "m"))))
            self.assertEqual(change(n, "h", "s"), tuple(
                tuple(Ratio(count_fillings(other, part)) for other in partitions(n)) for part in partitions(n)))


class TestTables(unittest.TestCase):
    def test_example_of_the_interface(self):
        self.assertEqual(numbers(change(2, "p", "m")[1]), ["1", "2"])

    def test_tables_to_m(self):
        for n in range(9):
            for base in BASES:
                self.assertEqual(change(n, base, "m"), tuple(monomial_row(base, part) for part in partitions(n)))

    def test_rows_have_the_meaning_of_the_function(self):
        for n in (0, 1, 2, 3, 4, 5, 8):
            for a, b in PAIRS:
                table = change(n, a, b)
                self.assertEqual(len(table), len(partitions(n)))
                for part, row in list(zip(partitions(n), table))[::1 if n < 5 else 3]:
                    self.assertEqual(Symmetric(b, list(zip(partitions(n), row))), one(a, part))

    def test_products_of_tables(self):
        for n in range(5):
            for a, b in PAIRS:
                for c in BASES:
                    self.assertEqual(times(change(n, a, b), change(n, b, c)), change(n, a, c))
        for a, b in (("e", "p"), ("h", "s"), ("s", "e"), ("p", "h")):
            self.assertEqual(times(change(8, a, "m"), change(8, "m", b)), change(8, a, b))

    def test_inverse_tables(self):
        for n in range(7):
            for a, b in PAIRS:
                self.assertEqual(times(change(n, a, b), change(n, b, a)), unit(n))
        for base in BASES:
            for n in range(9):
                self.assertEqual(change(n, base, base), unit(n))
            self.assertEqual(times(change(8, base, "m"), change(8, "m", base)), unit(8))

    def test_whole_items(self):
        for n in range(9):
            for a, b in PAIRS:
                if "p" not in (a, b) or b == "m" or a == b:
                    self.assertTrue(all(x.whole for row in change(n, a, b) for x in row))
        self.assertFalse(all(x.whole for row in change(2, "m", "p") for x in row))

    def test_from_e_to_h(self):
        for n in range(9):
            self.assertEqual(change(n, "e", "h"), change(n, "h", "e"))
        self.assertEqual(times(change(8, "e", "h"), change(8, "e", "h")), unit(8))

    def test_some_tables(self):
        cases = [
            (2, "m", "p", [["1", "0"], ["-1/2", "1/2"]]),
            (2, "s", "p", [["1/2", "1/2"], ["-1/2", "1/2"]]),
            (2, "e", "h", [["-1", "1"], ["0", "1"]]),
            (2, "m", "e", [["-2", "1"], ["1", "0"]]),
            (3, "s", "h", [["1", "0", "0"], ["-1", "1", "0"], ["1", "-2", "1"]]),
            (3, "s", "m", [["1", "1", "1"], ["0", "1", "2"], ["0", "0", "1"]]),
            (3, "p", "s", [["1", "-1", "1"], ["1", "0", "-1"], ["1", "2", "1"]]),
        ]
        for n, a, b, expected in cases:
            self.assertEqual([numbers(row) for row in change(n, a, b)], expected)

    def test_degree_nought_and_kinds_of_values(self):
        for a, b in PAIRS:
            self.assertEqual(change(0, a, b), ((Ratio(1),),))
            self.assertEqual(change(1, a, b), ((Ratio(1),),))
            for n in (0, 3, 8):
                table = change(n, a, b)
                self.assertIs(type(table), tuple)
                self.assertTrue(all(type(row) is tuple and len(row) == len(table) for row in table))
                self.assertTrue(all(type(x) is Ratio for row in table for x in row))


class TestConverted(unittest.TestCase):
    def test_rows_of_tables(self):
        for n in (0, 1, 4, 6):
            for a, b in PAIRS:
                table = change(n, a, b)
                for k, row in enumerate(unit(n)):
                    self.assertEqual(converted(n, row, a, b), table[k])

    def test_sums_of_rows(self):
        for n in (0, 2, 5, 8):
            row = tuple(Ratio((k * 7 + n) % 11 - 5, 1 + k % 4) for k in range(len(partitions(n))))
            for a, b in PAIRS:
                found = converted(n, row, a, b)
                self.assertIs(type(found), tuple)
                self.assertTrue(all(type(x) is Ratio for x in found))
                self.assertEqual(found, times((row,), change(n, a, b))[0])
                self.assertEqual(converted(n, found, b, a), row)
            zeros = (Ratio(0),) * len(row)
            self.assertEqual(converted(n, zeros, "e", "h"), zeros)


class TestErrors(unittest.TestCase):
    def assert_refused(self, reason, call, *arguments):
        with self.assertRaises(Refused) as caught:
            call(*arguments)
        self.assertEqual(caught.exception.reason, reason)

    def test_the_degree_comes_first(self):
        for n in (-1, 9, 10, LARGE, -LARGE, HUGE):
            for a, b in (("e", "h"), ("x", "h"), ("e", None), ([], {})):
                self.assert_refused("degree", change, n, a, b)
                for row in ((), (Ratio(1),), None):
                    self.assert_refused("degree", converted, n, row, a, b)

    def test_then_the_bases(self):
        wrong = [value for value in values_of_all_kinds() if not (isinstance(value, str) and value == "m")]
        for value in wrong + ["M", "me", "f", "mehps", ("m",), ["m"], {}, b"m", " m"]:
            for n in (0, 2, 8):
                for a, b in ((value, "m"), ("m", value), (value, value)):
                    self.assert_refused("base", change, n, a, b)
                    for row in ((), (Ratio(1),), None, (Ratio(1), Ratio(2))):
                        self.assert_refused("base", converted, n, row, a, b)

    def test_then_rows_of_another_length(self):
        for n in (0, 2, 4, 8):
            many = len(partitions(n))
            for length in {0, 1, many - 1, many + 1, 2 * many} - {many}:
                for a, b in PAIRS:
                    self.assertRaises(Malformed, converted, n, (Ratio(1),) * length, a, b)
        for value in values_of_all_kinds():
            if not (isinstance(value, tuple) and len(value) == 2):
                self.assertRaises(Malformed, converted, 2, value, "e", "m")
