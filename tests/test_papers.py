import unittest
from itertools import product as every

from fivebases.changes import change
from fivebases.checker import takes_change, takes_expansion, takes_product
from fivebases.errors import Malformed, Refused
from fivebases.papers import change_paper, expansion_paper, product_paper
from fivebases.partition import partitions
from fivebases.ratio import Ratio
from fivebases.structure import in_base, product
from fivebases.symmetric import Symmetric, one
from samples import BASES, sample
from values import same, values_of_all_kinds

PAIRS = list(every(BASES, repeat=2))
LARGE = 10 ** 30


def no_letters():
    return [value for value in values_of_all_kinds() if value != "m"] + ["M", "ms", "e ", "x", ["e"], ("e",)]


class PaperCase(unittest.TestCase):
    def assert_refused(self, make, *arguments):
        with self.assertRaises(Refused) as caught:
            make(*arguments)
        self.assertEqual(caught.exception.reason, "degree")

    def assert_malformed(self, make, *arguments):
        with self.assertRaises(Malformed):
            make(*arguments)


class TestChangePaper(PaperCase):
    def test_all_bases_and_degrees(self):
        for base, other in PAIRS:
            for n in range(7):
                paper = change_paper(n, base, other)
                self.assertTrue(same(paper, ("change", n, base, other, change(n, base, other))))
                self.assertIs(takes_change(paper), True, (n, base, other))

    def test_the_greatest_degree(self):
        for base, other in [("m", "h"), ("h", "e"), ("p", "s"), ("s", "p"), ("e", "e")]:
            self.assertIs(takes_change(change_paper(8, base, other)), True)

    def test_example_of_the_interface(self):
        for base, other in PAIRS:
            paper = ("change", 1, base, other, ((Ratio(1),),))
            self.assertTrue(same(change_paper(1, base, other), paper))
            self.assertIs(takes_change(paper), True)

    def test_degrees_before_letters(self):
        for n in (9, 10, -1, LARGE, -LARGE):
            self.assert_refused(change_paper, n, "m", "s")
            self.assert_refused(change_paper, n, "x", None)
        for n in (0, 8):
            for value in no_letters():
                self.assert_malformed(change_paper, n, value, "s")
                self.assert_malformed(change_paper, n, "s", value)


class TestExpansionPaper(PaperCase):
    def test_all_bases(self):
        for base, other in PAIRS:
            for f in (sample(base, range(6)), sample(base, (8,)), one(base, ()), Symmetric(base, [])):
                paper = expansion_paper(f, other)
                self.assertTrue(same(paper, ("expansion", other, in_base(f, other).terms)))
                self.assertIs(takes_expansion(f, paper), True, (base, other))

    def test_known_one(self):
        paper = expansion_paper(one("e", (2, 1)), "m")
        self.assertTrue(same(paper, ("expansion", "m", (((2, 1), Ratio(1)), ((1, 1, 1), Ratio(3))))))

    def test_letters(self):
        for f in (one("e", (2, 1)), Symmetric("p", [])):
            for value in no_letters():
                self.assert_malformed(expansion_paper, f, value)


class TestProductPaper(PaperCase):
    def test_all_bases(self):
        parts = [part for n in range(4) for part in partitions(n)]
        cases = list(every(parts, repeat=2)) + [((8,), ()), ((), (4, 3, 1)), ((3, 1), (2, 1, 1))]
        for base in BASES:
            for part, other in cases:
                f = product(one(base, part), one(base, other))
                paper = product_paper(base, part, other)
                self.assertTrue(same(paper, ("product", base, part, other, f.terms)))
                self.assertIs(takes_product(paper), True, (base, part, other))

    def test_known_one(self):
        paper = product_paper("m", (1,), (1,))
        self.assertTrue(same(paper, ("product", "m", (1,), (1,), (((2,), Ratio(1)), ((1, 1), Ratio(2))))))

    def test_degrees_before_letters(self):
        for part, other in [((9,), ()), ((), (9,)), ((5,), (4,)), ((8,), (8,)), ((LARGE,), (1,))]:
            for base in list(BASES) + ["x", None]:
                self.assert_refused(product_paper, base, part, other)
        for value in no_letters():
            self.assert_malformed(product_paper, value, (2, 1), (1,))
            self.assert_malformed(product_paper, value, (), ())


if __name__ == "__main__":
    unittest.main()
