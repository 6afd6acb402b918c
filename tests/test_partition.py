import unittest
from itertools import permutations, product
from math import factorial

from fivebases.errors import Refused
from fivebases.partition import (
    dominates, holds, is_level_strip, is_partition, is_upright_strip, joined, multiplicity, partition_text,
    partitions, read_partition, size, turned, with_strip, without_strip, z_number)
from reading import ReadingCase
from values import values_of_all_kinds

SMALL = [a for n in range(8) for a in partitions(n)]


def compositions(n, most):
    """All partitions of n by trying every row of numbers, not in order."""
    found = []
    for many in range(n + 1):
        for row in product(range(1, most + 1), repeat=many):
            if sum(row) == n and list(row) == sorted(row, reverse=True):
                found.append(row)
    return found


def boxes(a):
    return {(i, j) for i, part in enumerate(a) for j in range(part)}


def is_strip(a, b, side):
    """side 1: no two boxes in one column; side 0: no two in one row."""
    left = boxes(a) - boxes(b)
    return boxes(b) <= boxes(a) and len({box[side] for box in left}) == len(left)


def descending(found):
    return tuple(sorted(found, reverse=True))


def cycle_lengths(permutation):
    seen, found = set(), []
    for start in range(len(permutation)):
        length, at = 0, start
        while at not in seen:
            seen.add(at)
            at = permutation[at]
            length += 1
        if length:
            found.append(length)
    return tuple(sorted(found, reverse=True))


class TestPartitions(unittest.TestCase):
    def test_examples_of_the_interface(self):
        self.assertEqual(turned((3, 1)), (2, 1, 1))
        self.assertEqual(with_strip((2, 1), 2), ((4, 1), (3, 2), (3, 1, 1), (2, 2, 1)))

    def test_partitions_in_their_order(self):
        self.assertEqual(partitions(0), ((),))
        self.assertEqual(partitions(3), ((3,), (2, 1), (1, 1, 1)))
        for n in range(7):
            self.assertEqual(partitions(n), descending(compositions(n, n)))

    def test_partitions_to_twelve(self):
        counts = (1, 1, 2, 3, 5, 7, 11, 15, 22, 30, 42, 56, 77)
        for n, count in enumerate(counts):
            found = partitions(n)
            self.assertIs(type(found), tuple)
            self.assertEqual(len(found), count)
            self.assertEqual(found, descending(set(found)))
            for a in found:
                self.assertTrue(is_partition(a))
                self.assertEqual(size(a), n)

    def test_partitions_of_all_other_values_are_refused(self):
        for value in values_of_all_kinds() + [13, 12.0]:
            if type(value) is int and 0 <= value <= 12:
                continue
            with self.assertRaises(Refused) as caught:
                partitions(value)
            self.assertEqual(caught.exception.reason, "large")

    def test_is_partition_for_every_value(self):
        right = {(), (1,), (2, 1)}
        for value in values_of_all_kinds():
            self.assertIs(is_partition(value), type(value) is tuple and repr(value) in map(repr, right))
        self.assertIs(is_partition((10 ** 5000, 1, 1)), True)
        self.assertIs(is_partition((2, 2, True)), False)
        self.assertIs(is_partition((True, 1)), False)
        self.assertIs(is_partition((3, 1, 2)), False)
        self.assertIs(is_partition((3, 1, 0)), False)

    def test_size(self):
        self.assertEqual(size(()), 0)
        self.assertEqual(size((3, 2, 2)), 7)

    def test_turned(self):
        self.assertEqual(turned(()), ())
        for a in SMALL:
            self.assertEqual(boxes(turned(a)), {(j, i) for i, j in boxes(a)})
            self.assertEqual(turned(turned(a)), a)
            self.assertTrue(is_partition(turned(a)))

    def test_holds(self):
        for a in SMALL:
            for b in SMALL:
                self.assertIs(holds(a, b), boxes(b) <= boxes(a))

    def test_dominates(self):
        for a in SMALL:
            for b in SMALL:
                sums = [sum(a[:k]) >= sum(b[:k]) for k in range(8)]
                self.assertIs(dominates(a, b), sum(a) == sum(b) and all(sums))
                if a != b and dominates(a, b):
                    self.assertGreater(a, b)
                    self.assertTrue(dominates(turned(b), turned(a)))
        self.assertIs(dominates((3, 3), (4, 1, 1)), False)
        self.assertIs(dominates((3,), (1,)), False)
        self.assertIs(dominates((), ()), True)


class TestStrips(unittest.TestCase):
    def test_strips_of_both_kinds(self):
        for a in SMALL:
            for b in SMALL:
                self.assertIs(is_level_strip(a, b), is_strip(a, b, 1), (a, b))
                self.assertIs(is_upright_strip(a, b), is_strip(a, b, 0), (a, b))

    def test_with_strip(self):
        for b in SMALL:
            for k in range(5):
                above = partitions(size(b) + k)
                level = descending(a for a in above if is_strip(a, b, 1))
                upright = descending(a for a in above if is_strip(a, b, 0))
                self.assertEqual(with_strip(b, k), level)
                self.assertEqual(with_strip(b, k, upright=False), level)
                self.assertEqual(with_strip(b, k, upright=True), upright)

    def test_without_strip(self):
        for a in SMALL:
            for k in range(9):
                below = partitions(size(a) - k) if k <= size(a) else ()
                level = descending(b for b in below if is_strip(a, b, 1))
                upright = descending(b for b in below if is_strip(a, b, 0))
                self.assertEqual(without_strip(a, k), level)
                self.assertEqual(without_strip(a, k, upright=False), level)
                self.assertEqual(without_strip(a, k, upright=True), upright)

    def test_the_edges(self):
        self.assertEqual(with_strip((), 0), ((),))
        self.assertEqual(with_strip((), 3), ((3,),))
        self.assertEqual(with_strip((), 3, upright=True), ((1, 1, 1),))
        self.assertEqual(without_strip((), 0), ((),))
        self.assertEqual(without_strip((), 1), ())
        self.assertEqual(without_strip((1,), 1), ((),))
        self.assertEqual(without_strip((2,), 2, upright=True), ())

    def test_large_and_long_partitions(self):
        large = 10 ** 40
        self.assertEqual(with_strip((1,), large), ((large + 1,), (large, 1)))
        self.assertEqual(without_strip((large,), large), ((),))
        self.assertTrue(is_level_strip((large, 5), (5, 5)))
        self.assertFalse(is_upright_strip((large, 5), (5, 5)))
        tall = (1,) * 1500
        self.assertEqual(with_strip(tall, 1), ((2,) + tall[1:], tall + (1,)))
        self.assertEqual(with_strip(tall, 1, upright=True), ((2,) + tall[1:], tall + (1,)))
        self.assertEqual(without_strip(tall, 2, upright=True), (tall[2:],))
        self.assertEqual(turned(tall), (1500,))

    def test_the_strip_is_chosen_by_keyword(self):
        self.assertRaises(TypeError, with_strip, (1,), 1, True)
        self.assertRaises(TypeError, without_strip, (1,), 1, True)


class TestNumbersOfPartitions(unittest.TestCase):
    def test_joined(self):
        self.assertEqual(joined((3, 1), (2, 1)), (3, 2, 1, 1))
        self.assertEqual(joined((), (2,)), (2,))
        self.assertEqual(joined((2,), ()), (2,))
        self.assertEqual(joined((), ()), ())
        self.assertIs(type(joined((1,), (1,))), tuple)

    def test_z_number_counts_permutations(self):
        for n in range(6):
            every = list(permutations(range(n)))
            for a in partitions(n):
                one = next(x for x in every if cycle_lengths(x) == a)
                commuting = [x for x in every if all(x[one[i]] == one[x[i]] for i in range(n))]
                self.assertEqual(z_number(a), len(commuting))

    def test_z_number(self):
        self.assertEqual(z_number(()), 1)
        self.assertEqual(z_number((3, 3, 3, 1, 1)), 27 * 6 * 2)
        self.assertEqual(z_number((1,) * 12), factorial(12))
        self.assertEqual(z_number((10 ** 30,)), 10 ** 30)
        for n in range(9):
            self.assertEqual(sum(factorial(n) // z_number(a) for a in partitions(n)), factorial(n))

    def test_multiplicity(self):
        self.assertEqual([multiplicity((3, 2, 2), i) for i in range(5)], [0, 0, 2, 1, 0])
        self.assertEqual(multiplicity((), 1), 0)


class TestText(ReadingCase):
    def test_the_text_and_reading_it_back(self):
        self.assertEqual(partition_text((3, 2, 2)), "3.2.2")
        self.assertEqual(partition_text(()), "0")
        self.assertEqual(partition_text((12, 10)), "12.10")
        for n in range(13):
            for a in partitions(n):
                self.assertEqual(read_partition(partition_text(a)), a)

    def test_parts_of_any_size(self):
        a = (10 ** 5000, 10 ** 4999, 1)
        text = "1" + "0" * 5000 + ".1" + "0" * 4999 + ".1"
        self.assertEqual(partition_text(a), text)
        self.assertEqual(read_partition(text), a)

    def test_spoilt_texts_and_values_that_are_no_strings(self):
        spoilt = [
            "", ".", "1.", ".1", "1..1", "1.2", "2.0", "0.0", "00", "01", "2.01", "+1", "-1", " 1", "1 ", "2. 1",
            "2,1", "(2, 1)", "a", "1/2", "\u0661", "\u00b2", "1\n", "2.\n1", "1_0", "1e1", "0.1", "\n0",
        ]
        self.assert_reads_neither(read_partition, spoilt)
