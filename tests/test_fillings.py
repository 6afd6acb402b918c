import unittest
from itertools import permutations, product
from math import factorial

from fivebases.fillings import (
    content_of, count_fillings, exchanged, fillings, fillings_to, is_filling, word_of)
from fivebases.partition import partitions, size, turned
from shapes import boxes_of, every_filling, has_content, is_semistandard, rows_of, shapes
from values import same, values_of_all_kinds

SMALL = shapes(4)
LARGE = 10 ** 40


class TestIsFilling(unittest.TestCase):
    def test_all_rows_of_numbers_of_small_shapes(self):
        for outer, inner in SMALL:
            many = len(boxes_of(outer, inner))
            for numbers in product((1, 2, 3), repeat=many):
                right = is_semistandard(outer, inner, numbers)
                self.assertIs(is_filling(rows_of(outer, inner, numbers), outer, inner), right)

    def test_the_inner_partition_is_empty_unless_it_is_told(self):
        self.assertIs(is_filling(((1, 1), (2,)), (2, 1)), True)
        self.assertIs(is_filling(((1,), (1,)), (2, 1)), False)
        self.assertIs(is_filling(((1,), (1,)), (2, 1), (1,)), True)
        self.assertIs(is_filling(((2,), (1,)), (2, 1), inner=(1,)), True)

    def test_columns_beside_an_inner_partition(self):
        self.assertIs(is_filling(((1, 2), (1, 1)), (3, 2), (1,)), False)
        self.assertIs(is_filling(((2, 2), (1, 3)), (3, 2), (1,)), True)
        self.assertIs(is_filling(((), (1, 1), (2, 2)), (2, 2, 2), (2,)), True)
        self.assertIs(is_filling(((), (1, 2), (2, 2)), (2, 2, 2), (2,)), False)
        self.assertIs(is_filling(((5,), (), (1,)), (2, 1, 1), (1, 1)), True)

    def test_every_value_of_rows(self):
        right = [((), ()), ((1,), ((1,),)), ((2, 1), ((1, 1), (2,)))]
        for outer in [(), (1,), (2, 1), (3, 2, 2)]:
            for value in values_of_all_kinds():
                known = any(outer == shape and same(value, rows) for shape, rows in right)
                self.assertIs(is_filling(value, outer), known, (outer, value))
        self.assertIs(is_filling(((),), (2,), (2,)), True)
        for value in values_of_all_kinds():
            self.assertIs(is_filling(value, (2,), (2,)), same(value, ((),)))

    def test_items_of_all_kinds(self):
        self.assertIs(is_filling(((LARGE, LARGE), (LARGE + 1,)), (2, 1)), True)
        for value in values_of_all_kinds():
            whole = type(value) is int
            self.assertIs(is_filling(((value,),), (1,)), whole and value > 0)
            self.assertIs(is_filling(((1, value), (2,)), (2, 1)), whole and value > 0)
            self.assertIs(is_filling(((1, 1), (value,)), (2, 1)), whole and value > 1)
            self.assertIs(is_filling((value, (2,)), (2, 1)), same(value, (1, 2)))

    def test_other_forms(self):
        for rows in ([(1, 1), (2,)], ((1, 1), [2]), ([1, 1], (2,)), ((1, 1), (2,), ()), ((1, 1),), ((1, 1, 1), (2,)),
                     ((1,), (2,)), ((1, 1), (2, 2)), "ab", ((0, 1), (2,)), ((2, 1), (3,)), ((1, 1), (1,))):
            self.assertIs(is_filling(rows, (2, 1)), False)

    def test_large_partitions(self):
        self.assertIs(is_filling(((), (1,)), (LARGE, 1), (LARGE,)), True)
        self.assertIs(is_filling(((1,), (1,)), (LARGE, LARGE), (LARGE - 1, LARGE - 1)), False)
        self.assertIs(is_filling(((1,), (2,)), (LARGE, LARGE), (LARGE - 1, LARGE - 1)), True)
        self.assertIs(is_filling(((1, 2), (2,)), (LARGE, LARGE)), False)

    def test_what_is_no_shape_has_no_filling(self):
        self.assertIs(is_filling(((),), (1,), (1, 1)), False)
        self.assertIs(is_filling(((), ()), (1, 1), (2, 1)), False)


class TestFillings(unittest.TestCase):
    def test_example_of_the_interface(self):
        self.assertEqual(fillings((2, 1), (1, 1, 1)), (((1, 2), (3,)), ((1, 3), (2,))))

    def test_all_fillings_of_small_shapes_by_content(self):
        contents = [c for length in range(4) for c in product(range(4), repeat=length)]
        for outer, inner in SMALL:
            every = every_filling(outer, 3, inner)
            for content in contents:
                expected = tuple(rows for rows in every if has_content(rows, content))
                self.assertEqual(fillings(outer, content, inner), expected, (outer, content, inner))
                self.assertEqual(count_fillings(outer, content, inner), len(expected))
                if inner == ():
                    self.assertEqual(fillings(outer, content), expected)
                    self.assertEqual(count_fillings(outer, content), len(expected))

    def test_all_fillings_of_small_shapes_by_the_greatest_number(self):
        for outer, inner in SMALL:
            for most in range(4):
                self.assertEqual(fillings_to(outer, most, inner), every_filling(outer, most, inner))
                if inner == ():
                    self.assertEqual(fillings_to(outer, most), every_filling(outer, most))

    def test_larger_shapes_agree_with_each_other(self):
        for outer, inner in [((3, 3, 2), (1,)), ((4, 2, 1), ()), ((4, 4, 1), (3, 1)), ((2, 2, 2, 1), (1, 1))]:
            every = fillings_to(outer, 4, inner)
            self.assertEqual(every, tuple(sorted(set(every))))
            by_content = []
            for content in product(range(len(boxes_of(outer, inner)) + 1), repeat=4):
                found = fillings(outer, content, inner)
                self.assertEqual(found, tuple(sorted(set(found))))
                self.assertEqual(count_fillings(outer, content, inner), len(found))
                by_content.extend(found)
            self.assertEqual(tuple(sorted(by_content)), every)
            self.assertTrue(all(is_filling(rows, outer, inner) for rows in every))

    def test_contents_with_zeros(self):
        self.assertEqual(fillings((2,), (0, 2, 0)), (((2, 2),),))
        self.assertEqual(fillings((2, 1), (0, 1, 0, 2, 0, 0)), (((2, 4), (4,)),))
        self.assertEqual(fillings((2, 1), (1, 2)), fillings((2, 1), (1, 2, 0, 0)))
        self.assertEqual(fillings((), (0, 0)), ((),))
        self.assertEqual(fillings((1,), (0,) * 10 ** 5 + (1,)), (((10 ** 5 + 1,),),))
        self.assertEqual(count_fillings((1,), (0,) * 10 ** 5 + (1,)), 1)

    def test_contents_whose_sum_is_not_the_number_of_boxes(self):
        for content in [(), (0,), (1,), (1, 1), (2, 2), (4,), (LARGE,), (1, 1, 1, 1), (3, LARGE)]:
            self.assertEqual(fillings((2, 1), content), ())
            self.assertEqual(count_fillings((2, 1), content), 0)
        self.assertEqual(fillings((2, 1), (1, 1, 1), (1,)), ())
        self.assertEqual(count_fillings((2, 1), (1, 1, 1), (1,)), 0)
        self.assertEqual(fillings((), (1,)), ())
        self.assertEqual(count_fillings((), (1,)), 0)

    def test_shapes_without_boxes(self):
        self.assertEqual(fillings((), ()), ((),))
        self.assertEqual(fillings((2, 1), (), (2, 1)), (((), ()),))
        self.assertEqual(fillings((LARGE,), (0,), (LARGE,)), (((),),))
        self.assertEqual(count_fillings((), ()), 1)
        self.assertEqual(count_fillings((2, 1), (0,), (2, 1)), 1)
        for most in (0, 1, LARGE):
            self.assertEqual(fillings_to((), most), ((),))
            self.assertEqual(fillings_to((2, 1), most, (2, 1)), (((), ()),))
            self.assertEqual(fillings_to((LARGE, 1), most, (LARGE, 1)), (((), ()),))
        self.assertEqual(fillings_to((2, 1), 0), ())
        self.assertEqual(fillings_to((2, 1), 0, (1, 1)), ())

    def test_columns_that_are_too_tall(self):
        self.assertEqual(fillings_to((30, 1, 1, 1), 3), ())
        self.assertEqual(fillings_to((60, 30, 1, 1, 1), 2, (30,)), ())
        self.assertEqual(fillings_to((1,) * 500, 500), (tuple((k,) for k in range(1, 501)),))
        self.assertEqual(fillings((1,) * 12, (12,)), ())

    def test_numbers_of_fillings(self):
        def standard(a):
            hooks = 1
            for i, j in boxes_of(a):
                hooks *= a[i] - j + turned(a)[j] - i - 1
            return factorial(size(a)) // hooks

        for n in range(8):
            for a in partitions(n):
                self.assertEqual(count_fillings(a, (1,) * n), standard(a))
        stairs = (6, 5, 4, 3, 2, 1)
        self.assertEqual(count_fillings(stairs, (1,) * 21), standard(stairs))
        self.assertEqual(count_fillings((LARGE, 5), (LARGE, 5)), 1)
        self.assertEqual(count_fillings((LARGE, 5), (5, LARGE)), 1)
        self.assertEqual(count_fillings((LARGE,), (1, LARGE - 2, 1)), 1)
        self.assertEqual(count_fillings((LARGE + 2,), (1, 1), (LARGE,)), 1)
        self.assertEqual(count_fillings((LARGE + 1, 1), (LARGE, 1, 1)), 2)

    def test_kinds_of_values(self):
        for found in (fillings((2, 1), (1, 1, 1)), fillings_to((2, 1), 2), fillings((1,), ()), fillings_to((1,), 0)):
            self.assertIs(type(found), tuple)
            for rows in found:
                self.assertTrue(type(rows) is tuple and all(type(row) is tuple for row in rows))


class TestContentAndWord(unittest.TestCase):
    def test_content(self):
        self.assertEqual(content_of(((1, 1, 4), (2, 4))), (2, 1, 0, 2))
        self.assertEqual(content_of(((3,),)), (0, 0, 1))
        self.assertEqual(content_of(()), ())
        self.assertEqual(content_of(((), ())), ())
        for outer, inner in SMALL:
            for rows in every_filling(outer, 3, inner):
                content = content_of(rows)
                self.assertTrue(has_content(rows, content))
                self.assertTrue(content == () or content[-1] > 0)
                self.assertIn(rows, fillings(outer, content, inner))

    def test_word(self):
        self.assertEqual(word_of(((1, 1, 4), (2, 4), (5,))), (5, 2, 4, 1, 1, 4))
        self.assertEqual(word_of(((1,), (), (2, 3))), (2, 3, 1))
        self.assertEqual(word_of(()), ())
        self.assertEqual(word_of(((), ())), ())


def exchanged_by_definition(rows, outer, inner, k):
    table = dict(zip(boxes_of(outer, inner), [x for row in rows for x in row]))

    def free(i, j):
        if table[i, j] == k:
            return table.get((i + 1, j)) != k + 1
        return table[i, j] == k + 1 and table.get((i - 1, j)) != k

    for i in range(len(outer)):
        places = [box for box in sorted(table) if box[0] == i and free(*box)]
        lower = [box for box in places if table[box] == k]
        if places:
            assert places[-1][1] - places[0][1] == len(places) - 1
        table.update({box: k if at < len(places) - len(lower) else k + 1 for at, box in enumerate(places)})
    return rows_of(outer, inner, [table[box] for box in boxes_of(outer, inner)])


class TestExchanged(unittest.TestCase):
    def test_all_small_fillings(self):
        for outer, inner in shapes(5):
            for rows in fillings_to(outer, 3, inner):
                for k in range(1, 5):
                    other = exchanged(rows, inner, k)
                    self.assertTrue(is_filling(other, outer, inner))
                    self.assertEqual(exchanged(other, inner, k), rows)
                    numbers, others = word_of(rows), word_of(other)
                    for x in range(1, 6):
                        y = {k: k + 1, k + 1: k}.get(x, x)
                        self.assertEqual(others.count(y), numbers.count(x))

    def test_bound_and_free_ones_by_definition(self):
        for outer, inner in [((4, 3, 2), ()), ((4, 3, 2), (2, 1)), ((4, 4), (1,)), ((3, 3, 1), (2,))]:
            for rows in fillings_to(outer, 3, inner):
                for k in (1, 2, 3):
                    expected = exchanged_by_definition(rows, outer, inner, k)
                    self.assertEqual(exchanged(rows, inner, k), expected, (rows, inner, k))

    def test_some_fillings(self):
        self.assertEqual(exchanged(((1, 1, 1, 2), (2,)), (), 1), ((1, 1, 2, 2), (2,)))
        self.assertEqual(exchanged(((1, 1, 2, 2), (2,)), (), 2), ((1, 1, 3, 3), (3,)))
        self.assertEqual(exchanged(((1, 1), (1, 2)), (1,), 1), ((1, 2), (2, 2)))
        self.assertEqual(exchanged(((1, 2), (2,)), (1,), 1), ((1, 2), (1,)))
        self.assertEqual(exchanged(((1, 2), (2,)), (), 7), ((1, 2), (2,)))
        self.assertEqual(exchanged((), (), 1), ())
        self.assertEqual(exchanged(((), ()), (2, 1), 1), ((), ()))
        self.assertEqual(exchanged(((LARGE,),), (), LARGE), ((LARGE + 1,),))

    def test_equal_counts_for_contents_in_another_order(self):
        for outer, inner in [((4, 2, 1), ()), ((4, 3, 2), (2, 1)), ((3, 3, 3), (1,))]:
            for content in [(3, 2, 1, 1), (2, 2, 2, 1, 0), (0, 3, 1, 2), (3, 0, 2, 3)]:
                counts = {len(fillings(outer, order, inner)) for order in permutations(content)}
                self.assertEqual(counts, {count_fillings(outer, content, inner)})
