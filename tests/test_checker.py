import ast
import sys
import unittest
from itertools import product as every
from pathlib import Path

from fivebases import changes, checker
from fivebases.checker import monomial_product, monomial_row, takes_change, takes_expansion, takes_product
from fivebases.papers import change_paper, expansion_paper, product_paper
from fivebases.partition import partitions
from fivebases.ratio import Ratio
from fivebases.structure import product
from fivebases.symmetric import Symmetric, monomial_sum, one
from samples import BASES, sample
from shapes import every_filling, has_content
from values import values_of_all_kinds

PAIRS = list(every(BASES, repeat=2))
LARGE = 10 ** 30
ONE = Ratio(1)


def matrices(rows, columns):
    """All matrices of whole numbers with these sums, by trying."""
    if not rows:
        return [()] if not any(columns) else []
    return [
        (row,) + rest
        for row in every(*[range(min(c, rows[0]) + 1) for c in columns]) if sum(row) == rows[0]
        for rest in matrices(rows[1:], tuple(c - t for c, t in zip(columns, row)))]


def row_by_trying(base, part):
    others = partitions(sum(part))
    if base == "m":
        return tuple(int(other == part) for other in others)
    if base == "s":
        every_one = every_filling(part, sum(part))
        return tuple(len([rows for rows in every_one if has_content(rows, other)]) for other in others)
    found = []
    for other in others:
        every_one = matrices(part, other)
        if base == "e":
            every_one = [x for x in every_one if all(item <= 1 for row in x for item in row)]
        if base == "p":
            every_one = [x for x in every_one if all(len([item for item in row if item]) == 1 for row in x)]
        found.append(len(every_one))
    return tuple(found)


class TestMonomialRow(unittest.TestCase):
    def test_against_trying(self):
        for base in BASES:
            for n in range(6):
                for part in partitions(n):
                    self.assertEqual(monomial_row(base, part), row_by_trying(base, part), (base, part))

    def test_against_the_changes_of_base(self):
        for base in BASES:
            for n in range(9):
                for part in partitions(n):
                    row = monomial_row(base, part)
                    self.assertEqual({type(number) for number in row}, {int})
                    self.assertEqual(tuple(map(Ratio, row)), changes.monomial_row(base, part), (base, part))

    def test_the_empty_partition_and_the_degree_1(self):
        for base in BASES:
            self.assertEqual(monomial_row(base, ()), (1,))
            self.assertEqual(monomial_row(base, (1,)), (1,))

    def test_known_ones(self):
        self.assertEqual(monomial_row("e", (2, 1)), (0, 1, 3))
        self.assertEqual(monomial_row("h", (2, 1)), (1, 2, 3))
        self.assertEqual(monomial_row("p", (1, 1, 1)), (1, 3, 6))
        self.assertEqual(monomial_row("s", (2, 1)), (0, 1, 2))
        self.assertEqual(monomial_row("m", (2, 1)), (0, 1, 0))

    def test_beyond_the_degree_8(self):
        self.assertEqual(monomial_row("h", (9,)), (1,) * 30)
        self.assertEqual(monomial_row("e", (13,)), (0,) * 100 + (1,))
        self.assertEqual(monomial_row("s", (1,) * 9), (0,) * 29 + (1,))
        self.assertEqual(monomial_row("h", (1,) * 9)[-1], 362880)

    def test_takes_its_arguments_by_name(self):
        self.assertEqual(monomial_row(base="p", partition=(2,)), (1, 0))


class TestMonomialProduct(unittest.TestCase):
    def expected(self, part, other, n):
        f = monomial_sum(n, part) * monomial_sum(n, other)
        return tuple(
            f.coefficient(whole + (0,) * (n - len(whole))).n
            for whole in partitions(sum(part) + sum(other)))

    def test_against_polynomials(self):
        for n in range(7):
            for k in range(n + 1):
                for part, other in every(partitions(k), partitions(n - k)):
                    counts = monomial_product(part, other)
                    self.assertEqual(counts, self.expected(part, other, n), (part, other))
                    self.assertEqual({type(count) for count in counts}, {int})

    def test_the_greatest_degree(self):
        for part, other in [((4, 1), (2, 1)), ((2, 2), (2, 1, 1)), ((8,), ()), ((1,) * 4, (1,) * 4)]:
            self.assertEqual(monomial_product(part, other), self.expected(part, other, 8))
            self.assertEqual(monomial_product(other, part), monomial_product(part, other))

    def test_known_ones(self):
        self.assertEqual(monomial_product((), ()), (1,))
        self.assertEqual(monomial_product((1,), (1,)), (1, 2))
        self.assertEqual(monomial_product((2,), (1,)), (1, 1, 0))
        self.assertEqual(monomial_product((1, 1), (1, 1)), (0, 0, 1, 2, 6))

    def test_beyond_the_degree_8(self):
        counts = monomial_product((8,), (8,))
        self.assertEqual((len(counts), counts[0], sum(counts)), (231, 1, 3))
        self.assertEqual(monomial_product((1,) * 8, (1,) * 8)[-1], 12870)


def with_item(items, k, value):
    return items[:k] + (value,) + items[k + 1:]


class PaperCase(unittest.TestCase):
    def assert_not_taken(self, takes, papers):
        for paper in papers:
            self.assertIs(takes(paper), False, paper)

    def other_forms(self, paper, likewise=()):
        """Papers with other words, lengths and kinds; `likewise` are items that may stand at a place."""
        for k in range(len(paper)):
            for value in values_of_all_kinds() + [LARGE, list(paper), paper]:
                if (k, value) not in likewise:
                    yield with_item(paper, k, value)
            yield paper[:k] + paper[k + 1:]
        yield from (paper + (0,), paper + ((),), list(paper), (paper,), [paper])
        for word in ("change", "expansion", "product"):
            if word != paper[0]:
                yield with_item(paper, 0, word)
        yield from values_of_all_kinds()


def changed_ratios(number):
    others = [number + ONE, -number, number + Ratio(1, LARGE), number * Ratio(3), Ratio(0)]
    return [other for other in others if other != number]


def no_ratios(number):
    return [number.n, True, False, None, str(number), (number,), [number], one("m", ()), 0, 1]


class TestTakesChange(PaperCase):
    def test_each_changed_number_is_seen(self):
        for base, other in PAIRS:
            _, n, _, _, rows = change_paper(3, base, other)
            for i, row in enumerate(rows):
                for j, number in enumerate(row):
                    for value in changed_ratios(number) + no_ratios(number):
                        spoilt = with_item(rows, i, with_item(row, j, value))
                        self.assertIs(takes_change(("change", 3, base, other, spoilt)), False)

    def test_one_changed_number_in_the_greatest_degree(self):
        for base, other in [("h", "e"), ("p", "s"), ("m", "p")]:
            paper = change_paper(8, base, other)
            for i, j in [(0, 0), (21, 21), (0, 21), (21, 0), (9, 13)]:
                row = paper[4][i]
                spoilt = with_item(paper[4], i, with_item(row, j, row[j] + ONE))
                self.assertIs(takes_change(with_item(paper, 4, spoilt)), False)

    def test_rows_exchanged_left_out_or_added(self):
        for base, other in PAIRS:
            paper = change_paper(4, base, other)
            rows = paper[4]
            for i in range(len(rows) - 1):
                exchanged = rows[:i] + (rows[i + 1], rows[i]) + rows[i + 2:]
                self.assertIs(takes_change(with_item(paper, 4, exchanged)), False)
            self.assert_not_taken(takes_change, [with_item(paper, 4, value) for value in (
                rows[1:], rows[:-1], rows + (rows[0],), rows[::-1], list(rows), (), ((),) * 5,
                tuple(map(list, rows)), tuple(row + (Ratio(0),) for row in rows), tuple(row[:-1] for row in rows),
                with_item(rows, 2, rows[2][1:]), with_item(rows, 4, rows[4] + (Ratio(0),)), with_item(rows, 1, ()))])

    def test_other_letters_and_degrees(self):
        for base, other in PAIRS:
            paper = change_paper(3, base, other)
            for first, second in PAIRS:
                expected = (first, second) == (base, other) or first == second and base == other
                expected = expected or {(first, second), (base, other)} == {("e", "h"), ("h", "e")}
                self.assertIs(takes_change(("change", 3, first, second, paper[4])), expected)
            for n in (-1, 0, 1, 2, 4, 8, 9, LARGE, -LARGE, True, False, "3", None, Ratio(3), (3,)):
                self.assertIs(takes_change(with_item(paper, 1, n)), False)

    def test_letters_that_are_none(self):
        for value in values_of_all_kinds() + ["S", "ms", "x", ["s"]]:
            if value != "m":
                for base in BASES:
                    self.assertIs(takes_change(("change", 2, value, base, change_paper(2, "s", base)[4])), False)
                    self.assertIs(takes_change(("change", 2, base, value, change_paper(2, base, "s")[4])), False)

    def test_degrees_beyond(self):
        for n in (-LARGE, -2, -1, 9, 12, 13, LARGE):
            self.assertIs(takes_change(("change", n, "m", "s", ())), False)
        many = len(partitions(9))
        unit = tuple(tuple(Ratio(int(i == j)) for j in range(many)) for i in range(many))
        for base in BASES:
            self.assertIs(takes_change(("change", 9, base, base, unit)), False)

    def test_the_degrees_0_and_1_and_true_and_false(self):
        for base, other in PAIRS:
            for n in (0, 1):
                self.assertIs(takes_change(("change", n, base, other, ((ONE,),))), True)
                self.assert_not_taken(takes_change, [
                    ("change", bool(n), base, other, ((ONE,),)), ("change", n, base, other, ((1,),)),
                    ("change", n, base, other, ((True,),)), ("change", n, base, other, ((Ratio(2),),)),
                    ("change", n, base, other, ()), ("change", n, base, other, ((),)),
                    ("change", n, base, other, ((ONE, ONE),)), ("change", n, base, other, ((ONE,), (ONE,)))])

    def test_values_of_all_forms(self):
        paper = change_paper(2, "s", "p")
        self.assertIs(takes_change(paper), True)
        self.assert_not_taken(takes_change, self.other_forms(paper, [(1, 2)]))
        self.assert_not_taken(takes_change, [with_item(paper, 1, 9), expansion_paper(one("m", (1,)), "m")])


class TestTakesExpansion(PaperCase):
    def test_each_changed_number_is_seen(self):
        for base, other in PAIRS:
            f = sample(base, range(4))
            paper = expansion_paper(f, other)
            for k, (part, number) in enumerate(paper[2]):
                for value in changed_ratios(number) + no_ratios(number):
                    spoilt = with_item(paper[2], k, (part, value))
                    self.assertIs(takes_expansion(f, with_item(paper, 2, spoilt)), False, (base, other, spoilt))

    def test_each_pair_left_out_twice_or_exchanged(self):
        for base, other in PAIRS:
            f = sample(base, (2, 3, 5))
            paper = expansion_paper(f, other)
            pairs = paper[2]
            for k in range(len(pairs)):
                half = (pairs[k][0], pairs[k][1] * Ratio(1, 2))
                spoilt = [pairs[:k] + pairs[k + 1:], pairs[:k] + (half, half) + pairs[k + 1:], pairs + (pairs[k],)]
                if k > 0:
                    spoilt.append(pairs[:k - 1] + (pairs[k], pairs[k - 1]) + pairs[k + 1:])
                self.assert_not_taken(lambda x: takes_expansion(f, ("expansion", other, x)), spoilt)

    def test_pairs_with_zero_or_of_another_form(self):
        f = Symmetric("s", [((2, 1), 1), ((3,), -2)])
        pairs = f.terms
        self.assertIs(takes_expansion(f, ("expansion", "s", pairs)), True)
        spoilt = [
            pairs + (((1, 1, 1), Ratio(0)),), (((), Ratio(0)),) + pairs, pairs + (((8, 1), ONE),),
            pairs + (((LARGE,), ONE),), pairs + (((1, 2), ONE),), pairs + (((2, 0), ONE),), pairs + (((True,), ONE),),
            pairs + (([4], ONE),), pairs + ((4, ONE),), pairs + (((4,),),), pairs + (((4,), ONE, ONE),),
            pairs + ((),), pairs + (ONE,), pairs + (None,), tuple(map(list, pairs)), list(pairs), pairs[::-1],
            pairs + (((4,), 0),), pairs + (((4,), False),), (((2, 1), 1), ((3,), -2))]
        self.assert_not_taken(lambda x: takes_expansion(f, ("expansion", "s", x)), spoilt)

    def test_the_order_of_functions(self):
        f = Symmetric("h", [((4,), 1), ((3,), 1), ((2, 1), 1), ((), 1)])
        pairs = (((), ONE), ((3,), ONE), ((2, 1), ONE), ((4,), ONE))
        for order in every(pairs, repeat=4):
            self.assertIs(takes_expansion(f, ("expansion", "h", order)), order == pairs)

    def test_other_letters_and_functions(self):
        f = sample("e", (2, 3))
        for base, other in PAIRS:
            paper = ("expansion", base, expansion_paper(f, other)[2])
            self.assertIs(takes_expansion(f, paper), base == other)
        for value in values_of_all_kinds() + ["S", "ms", "x", ["s"]]:
            for base in BASES:
                if value != base:
                    self.assertIs(takes_expansion(f, ("expansion", value, expansion_paper(f, base)[2])), False)
        paper = expansion_paper(f, "s")
        for g in (f + one("e", ()), -f, Symmetric("s", []), sample("e", (2,)), f.scaled(Ratio(2))):
            self.assertIs(takes_expansion(g, paper), False)
        for base in BASES:
            self.assertIs(takes_expansion(Symmetric(base, f.meaning().terms), expansion_paper(f, "m")), base == "m")

    def test_zero(self):
        for base, other in PAIRS:
            nothing = Symmetric(base, [])
            self.assertIs(takes_expansion(nothing, ("expansion", other, ())), True)
            self.assertIs(takes_expansion(nothing, ("expansion", other, (((), ONE),))), False)
            self.assertIs(takes_expansion(one(base, ()), ("expansion", other, ())), False)
            self.assertIs(takes_expansion(one(base, ()), ("expansion", other, (((), ONE),))), True)

    def test_values_of_all_forms(self):
        f = one("s", (2, 1))
        paper = expansion_paper(f, "m")
        self.assertIs(takes_expansion(f, paper), True)
        self.assert_not_taken(lambda x: takes_expansion(f, x), self.other_forms(paper, [(1, "m")]))

    def test_what_is_no_function(self):
        for value in values_of_all_kinds() + [monomial_sum(3, (2, 1)), "m[1]", (((1,), ONE),), ("m", (((1,), ONE),))]:
            if not isinstance(value, Symmetric):
                for paper in (expansion_paper(one("m", (1,)), "m"), ("expansion", "m", ()), value, None):
                    self.assertIs(takes_expansion(value, paper), False)


class TestTakesProduct(PaperCase):
    def test_each_changed_number_or_pair_is_seen(self):
        for base in BASES:
            paper = product_paper(base, (2, 1), (1,))
            pairs = paper[4]
            for k, (part, number) in enumerate(pairs):
                spoilt = [with_item(pairs, k, (part, x)) for x in changed_ratios(number) + no_ratios(number)]
                spoilt += [pairs[:k] + pairs[k + 1:], pairs + (pairs[k],), with_item(pairs, k, list(pairs[k]))]
                self.assert_not_taken(takes_product, [with_item(paper, 4, x) for x in spoilt])
            more = [pairs + (((5,), ONE),), pairs + (((4, 3, 2), ONE),), (((), ONE),) + pairs, list(pairs),
                    pairs + (((5,), Ratio(0)),), (), tuple(map(list, pairs))]
            self.assert_not_taken(takes_product, [with_item(paper, 4, x) for x in more])
            if len(pairs) > 1:
                self.assertIs(takes_product(with_item(paper, 4, pairs[::-1])), False)

    def test_other_letters_and_partitions(self):
        for base in BASES:
            paper = product_paper(base, (2, 1), (2,))
            for other in BASES:
                likewise = {base, other} <= set("ehp")
                self.assertIs(takes_product(with_item(paper, 1, other)), base == other or likewise)
            self.assertIs(takes_product(("product", base, (2,), (2, 1), paper[4])), True)
            for value in values_of_all_kinds() + ["S", "ms", "x", ["s"]]:
                self.assertIs(takes_product(with_item(paper, 1, value)), value == base)
            for k in (2, 3):
                for part in [(), (1,), (3,), (1, 1), (1, 1, 1), (2, 2), (1, 2), (2, 0), [2], [2, 1], (7,), (8,), (LARGE,),
                             (True, True), 2, None]:
                    self.assertIs(takes_product(with_item(paper, k, part)), False, (base, k, part))

    def test_degrees_to_8(self):
        for base in BASES:
            for part, other in [((4, 1), (2, 1)), ((), (8,)), ((5, 3), ()), ((2, 2), (1,) * 4), ((1,), (4, 2, 1))]:
                paper = product_paper(base, part, other)
                self.assertIs(takes_product(paper), True, paper)
                last, number = paper[4][-1]
                spoilt = with_item(paper[4], len(paper[4]) - 1, (last, number + ONE))
                self.assertIs(takes_product(with_item(paper, 4, spoilt)), False)
            for part, other in [((9,), ()), ((), (9,)), ((4, 4), (1,)), ((8,), (8,)), ((LARGE,), (LARGE,))]:
                for pairs in ((), (((8,), ONE),), (((9,), ONE),)):
                    self.assertIs(takes_product(("product", base, part, other, pairs)), False)

    def test_whoever_made_it(self):
        for base in BASES:
            for part, other in every([(2,), (1, 1), (1,), ()], repeat=2):
                f = product(one(base, part), one(base, other))
                self.assertIs(takes_product(("product", base, part, other, f.terms)), True)
                self.assertIs(takes_product(("product", base, part, other, f.scaled(Ratio(-1)).terms)), False)

    def test_values_of_all_forms(self):
        paper = product_paper("s", (2, 1), (2,))
        self.assertIs(takes_product(paper), True)
        self.assert_not_taken(takes_product, self.other_forms(paper, [(2, (2, 1))]))


class TestWalksOfItsOwn(unittest.TestCase):
    def test_no_function_of_fillings_changes_and_products_is_called(self):
        papers = [
            (takes_change, change_paper(4, "s", "h")), (takes_change, change_paper(3, "e", "p")),
            (takes_product, product_paper("s", (2, 1), (2,))), (takes_product, product_paper("p", (2,), (1,)))]
        f = sample("h", range(4))
        paper = expansion_paper(f, "s")
        called = set()

        def note(frame, event, _):
            if event == "call":
                called.add((Path(frame.f_code.co_filename).stem, frame.f_code.co_name))

        sys.setprofile(note)
        try:
            answers = [takes(x) for takes, x in papers] + [takes_expansion(f, paper)]
        finally:
            sys.setprofile(None)
        self.assertEqual(answers, [True] * 5)
        modules = {module for module, _ in called}
        self.assertIn("checker", modules)
        for module in ("fillings", "insertion", "counting", "changes", "structure", "putting", "papers"):
            self.assertNotIn(module, modules)

    def test_what_it_imports(self):
        tree = ast.parse(Path(checker.__file__).read_text())
        modules = {node.module for node in tree.body if isinstance(node, ast.ImportFrom)}
        self.assertEqual(modules, {"fivebases.partition", "fivebases.ratio", "fivebases.symmetric"})


if __name__ == "__main__":
    unittest.main()
