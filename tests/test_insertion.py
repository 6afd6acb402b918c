import unittest
from itertools import combinations, permutations, product

from fivebases.errors import Malformed, Refused
from fivebases.fillings import content_of, fillings, fillings_to, is_filling, word_of
from fivebases.insertion import (
    inserted, longest_rising, matrix_of_pair, pair_of_matrix, pair_of_word, taken, word_of_pair)
from fivebases.partition import partitions
from values import values_of_all_kinds

LARGE = 10 ** 40
WORDS = [word for n in range(6) for word in product((1, 2, 3), repeat=n)] + [
    word for n in range(6) for word in permutations(range(1, n + 1))]


def shape_of(rows):
    return tuple(map(len, rows))


def inserted_by_definition(rows, x, i=0):
    """Row by row, by the words of the document."""
    if i == len(rows):
        return rows + ((x,),), i
    greater = [y for y in rows[i] if y > x]
    if not greater:
        return rows[:i] + (rows[i] + (x,),) + rows[i + 1:], i
    y = greater[0]
    at = rows[i].index(y)
    row = rows[i][:at] + (x,) + rows[i][at + 1:]
    return inserted_by_definition(rows[:i] + (row,) + rows[i + 1:], y, i + 1)


def pair_by_definition(columns):
    p, q = (), ()
    for first, second in columns:
        p, i = inserted_by_definition(p, second)
        q = q + ((),) if i == len(q) else q
        q = q[:i] + (q[i] + (first,),) + q[i + 1:]
    return p, q


def matrices(height, width, most):
    for items in product(range(most + 1), repeat=height * width):
        yield tuple(items[k * width:(k + 1) * width] for k in range(height))


def columns_of(matrix):
    return [(i + 1, j + 1) for i, row in enumerate(matrix) for j, many in enumerate(row) for _ in range(many)]


def without_zeros_at_the_end(row):
    while row and row[-1] == 0:
        row = row[:-1]
    return row


def longest_by_trying(word):
    for n in range(len(word), -1, -1):
        if any(list(chosen) == sorted(chosen) for chosen in combinations(word, n)):
            return n


class PairCase(unittest.TestCase):
    def assert_small(self, *arguments):
        with self.assertRaises(Refused) as caught:
            matrix_of_pair(*arguments)
        self.assertEqual(caught.exception.reason, "small")


class TestInserting(unittest.TestCase):
    def test_inserting_into_all_small_fillings(self):
        for n in range(6):
            for shape in partitions(n):
                for rows in fillings_to(shape, 3):
                    for x in range(1, 5):
                        found, i = inserted(rows, x)
                        self.assertEqual((found, i), inserted_by_definition(rows, x))
                        grown = shape[:i] + ((shape + (0,))[i] + 1,) + shape[i + 1:]
                        self.assertTrue(is_filling(found, grown))
                        self.assertEqual(taken(found, i), (rows, x))

    def test_the_places_of_two_new_boxes(self):
        for shape in [(), (1,), (2, 1), (3, 2), (2, 2, 1)]:
            for rows in fillings_to(shape, 3):
                for x, z in product(range(1, 5), repeat=2):
                    once, i = inserted(rows, x)
                    twice, k = inserted(once, z)
                    j, m = len(once[i]) - 1, len(twice[k]) - 1
                    self.assertTrue(m > j and k <= i if z >= x else k > i and m <= j)

    def test_some_fillings(self):
        self.assertEqual(inserted((), 4), (((4,),), 0))
        self.assertEqual(inserted(((1, 2, 2, 5), (3, 3)), 2), (((1, 2, 2, 2), (3, 3, 5)), 1))
        self.assertEqual(inserted(((2, 2), (3, 3)), 1), (((1, 2), (2, 3), (3,)), 2))
        self.assertEqual(inserted(((1, LARGE),), LARGE - 1), (((1, LARGE - 1), (LARGE,)), 1))

    def test_taking_the_last_box_of_a_row_away(self):
        self.assertEqual(taken(((1, 2, 2, 2), (3, 3, 5)), 1), (((1, 2, 2, 5), (3, 3)), 2))
        self.assertEqual(taken(((1, 2), (2, 3), (3,)), 2), (((2, 2), (3, 3)), 1))
        self.assertEqual(taken(((4,),), 0), ((), 4))
        self.assertEqual(taken(((1, 1, 3), (2,)), 0), (((1, 1), (2,)), 3))
        for n in range(1, 6):
            for shape in partitions(n):
                for rows in fillings_to(shape, 3):
                    for i, part in enumerate(shape):
                        if part > (shape + (0,))[i + 1]:
                            found, x = taken(rows, i)
                            self.assertEqual(inserted(found, x), (rows, i))

    def test_rows_without_a_corner_are_refused(self):
        cases = [((), 0), ((), 1), ((), -1), (((1,),), 1), (((1,),), -1), (((1,),), LARGE), (((1, 1), (2, 2)), 0),
                 (((1, 1), (2, 2)), 2), (((1, 1), (2,), (3,)), 1), (((1, 1), (2,), (3,)), 3), (((1,),), -LARGE)]
        for rows, i in cases + [(((1,),), i) for i in (True, False, None, "0", (0,))]:
            with self.assertRaises(Refused) as caught:
                taken(rows, i)
            self.assertEqual(caught.exception.reason, "corner")


class TestWords(unittest.TestCase):
    def test_example_of_the_interface(self):
        self.assertEqual(pair_of_word((2, 1, 2)), (((1, 2), (2,)), ((1, 3), (2,))))

    def test_words_both_ways(self):
        seen = set()
        for word in set(WORDS):
            p, q = pair_of_word(word)
            self.assertEqual((p, q), pair_by_definition(enumerate(word, 1)))
            self.assertTrue(is_filling(p, shape_of(p)))
            self.assertTrue(is_filling(q, shape_of(p)))
            self.assertEqual(content_of(q), (1,) * len(word))
            self.assertEqual(sorted(word_of(p)), sorted(word))
            self.assertEqual(word_of_pair(p, q), word)
            seen.add((p, q))
        self.assertEqual(len(seen), len(set(WORDS)))

    def test_all_pairs_come_from_a_word(self):
        for n in range(6):
            for shape in partitions(n):
                for q in fillings(shape, (1,) * n):
                    for p in fillings_to(shape, 3):
                        word = word_of_pair(p, q)
                        self.assertEqual(len(word), n)
                        self.assertEqual(pair_of_word(word), (p, q))

    def test_edges(self):
        self.assertEqual(pair_of_word(()), ((), ()))
        self.assertEqual(word_of_pair((), ()), ())
        self.assertEqual(pair_of_word((LARGE, LARGE, 1)), (((1, LARGE), (LARGE,)), ((1, 2), (3,))))
        self.assertEqual(word_of_pair(((1, LARGE), (LARGE,)), ((1, 2), (3,))), (LARGE, LARGE, 1))

    def test_the_word_of_a_filling_gives_it_back(self):
        for shape in [(3, 2), (2, 2, 1), (4,)]:
            for rows in fillings_to(shape, 3):
                self.assertEqual(pair_of_word(word_of(rows))[0], rows)

    def test_long_words(self):
        falling = tuple(range(1500, 0, -1))
        mixed = tuple(k * 7919 % 1009 + 1 for k in range(4000))
        for word in (falling, mixed, (5,) * 5000):
            self.assertEqual(word_of_pair(*pair_of_word(word)), word)


class TestPairsThatAreNone(PairCase):
    def assert_malformed(self, p, q):
        self.assertRaises(Malformed, word_of_pair, p, q)
        self.assertRaises(Malformed, matrix_of_pair, p, q, 9, 9)
        # Malformed comes before the size.
        self.assertRaises(Malformed, matrix_of_pair, p, q, 0, 0)

    def test_other_shapes(self):
        self.assert_malformed(((1, 1),), ((1,), (2,)))
        self.assert_malformed((), ((1,),))
        self.assert_malformed(((1,),), ())
        self.assert_malformed(((1,), (2,)), ((1, 2),))
        self.assert_malformed(((1,), (2, 3)), ((1,), (2, 3)))
        self.assert_malformed(((),), ((),))
        self.assert_malformed(((1,), ()), ((1,), ()))
        self.assert_malformed(((), ()), ())

    def test_rows_that_are_no_fillings(self):
        for wrong in [((2, 1), (3,)), ((1, 1), (1,)), ((0, 1), (2,)), ((True, 2), (3,)), ((1, 2), (None,)),
                      ((1, 2), ("3",)), ([1, 2], (3,)), [(1, 2), (3,)], ((1, 2), [3]), ((1, 2), (-3,)), "abc"]:
            self.assert_malformed(wrong, ((1, 2), (3,)))
            self.assert_malformed(((1, 2), (3,)), wrong)
            self.assert_malformed(wrong, wrong)

    def test_values_of_all_kinds(self):
        for value in values_of_all_kinds():
            if value == ():
                self.assertEqual(word_of_pair(value, ()), ())
                continue
            self.assert_malformed(value, ())
            self.assert_malformed((), value)
            if value != ((1,),):
                self.assert_malformed(value, ((1,),))
                self.assert_malformed(((1,),), value)
            if type(value) is not int or value < 1:
                self.assert_malformed(((value,),), ((1,),))
                self.assert_malformed(((1,),), ((value,),))

    def test_numbers_of_q_missing_or_doubled(self):
        p = ((1, 1), (2,))
        for q in [((1, 1), (2,)), ((1, 2), (2,)), ((1, 2), (4,)), ((2, 3), (4,)), ((1, LARGE), (2,)), ((1, 3), (3,))]:
            self.assertRaises(Malformed, word_of_pair, p, q)
        self.assertRaises(Malformed, word_of_pair, ((1,),), ((2,),))
        # A matrix may give such a `q`.
        self.assertEqual(matrix_of_pair(p, ((1, 1), (2,)), 2, 2), ((1, 1), (1, 0)))


class TestMatrices(PairCase):
    def every(self):
        for height, width, most in [(1, 3, 3), (2, 2, 3), (2, 3, 2), (3, 2, 1), (3, 3, 1), (0, 0, 1), (3, 0, 1)]:
            for matrix in matrices(height, width, most):
                yield height, width, matrix

    def test_matrices_both_ways(self):
        for height, width, matrix in self.every():
            p, q = pair_of_matrix(matrix)
            self.assertEqual((p, q), pair_by_definition(columns_of(matrix)))
            self.assertTrue(is_filling(p, shape_of(p)))
            self.assertTrue(is_filling(q, shape_of(p)))
            sums = tuple(sum(row[j] for row in matrix) for j in range(width))
            self.assertEqual(content_of(p), without_zeros_at_the_end(sums))
            self.assertEqual(content_of(q), without_zeros_at_the_end(tuple(map(sum, matrix))))
            self.assertEqual(matrix_of_pair(p, q, height, width), matrix)
            wider = tuple(row + (0, 0) for row in matrix) + ((0,) * (width + 2),)
            self.assertEqual(matrix_of_pair(p, q, height + 1, width + 2), wider)
            self.assertEqual(pair_of_matrix(wider), (p, q))

    def test_the_transposed_matrix_gives_the_exchanged_pair(self):
        for height, width, matrix in self.every():
            transposed = tuple(tuple(row[j] for row in matrix) for j in range(width))
            self.assertEqual(pair_of_matrix(transposed), pair_of_matrix(matrix)[::-1])

    def test_all_pairs_come_from_a_matrix(self):
        for n in range(5):
            for shape in partitions(n):
                for p in fillings_to(shape, 3):
                    for q in fillings_to(shape, 2):
                        matrix = matrix_of_pair(p, q, 2, 3)
                        self.assertEqual([len(row) for row in matrix], [3, 3])
                        self.assertEqual(pair_of_matrix(matrix), (p, q))

    def test_matrices_without_rows_and_rows_of_zeros(self):
        for matrix in [(), ((),), ((), ()), ((0,),), ((0, 0), (0, 0)), ((0, 0, 0),)]:
            self.assertEqual(pair_of_matrix(matrix), ((), ()))
        self.assertEqual(matrix_of_pair((), (), 0, 0), ())
        self.assertEqual(matrix_of_pair((), (), 0, 5), ())
        self.assertEqual(matrix_of_pair((), (), 2, 0), ((), ()))
        self.assertEqual(matrix_of_pair((), (), 2, 1), ((0,), (0,)))
        self.assertEqual(pair_of_matrix(((0, 0), (0, 2))), (((2, 2),), ((2, 2),)))
        self.assertEqual(matrix_of_pair(((2, 2),), ((2, 2),), 2, 2), ((0, 0), (0, 2)))

    def test_words_are_matrices_with_one_item_in_each_row(self):
        for word in [(2, 1, 2), (3, 1, 2, 2), (1,)]:
            matrix = tuple(tuple(int(x == j) for j in range(1, 4)) for x in word)
            self.assertEqual(pair_of_matrix(matrix), pair_of_word(word))

    def test_small_heights_and_widths_are_refused(self):
        p, q = ((1, 3), (4,)), ((1, 1), (2,))
        self.assertEqual(matrix_of_pair(p, q, 2, 4), ((1, 0, 0, 1), (0, 0, 1, 0)))
        self.assert_small(p, q, 1, 4)
        self.assert_small(p, q, 2, 3)
        self.assert_small(p, q, 0, 0)
        self.assert_small(((LARGE,),), ((1,),), 1, 5)
        self.assert_small(((1,),), ((LARGE,),), 5, 1)
        self.assert_small(((1,),), ((1,),), 1, 0)
        self.assert_small(((1,),), ((1,),), 0, 1)

    def test_large_items(self):
        matrix = ((0, 3000), (2000, 1))
        self.assertEqual(matrix_of_pair(*pair_of_matrix(matrix), 2, 2), matrix)


class TestLongestRising(unittest.TestCase):
    def test_all_small_words(self):
        for word in WORDS:
            longest = longest_rising(word)
            self.assertEqual(longest, longest_by_trying(word))
            self.assertEqual(longest, len((pair_of_word(word)[0] + ((),))[0]))

    def test_edges(self):
        self.assertEqual(longest_rising(()), 0)
        self.assertEqual(longest_rising((LARGE,)), 1)
        self.assertEqual(longest_rising((LARGE, LARGE, 1)), 2)
        self.assertEqual(longest_rising((7,) * 3000), 3000)
        self.assertEqual(longest_rising(tuple(range(3000, 0, -1))), 1)
