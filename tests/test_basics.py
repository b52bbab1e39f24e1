"""Ratios: what the other files count with."""

import random
import unittest

from sameontrees.basics import product_of, ratio_of, scaled, sum_of, summed
from tests.reference import Fraction, ratio


class Ratios(unittest.TestCase):

    def test_lowest_terms(self):
        for top, bottom, told in ((2, 4, (1, 2)), (-2, 4, (-1, 2)), (2, -4, (-1, 2)),
                                  (-2, -4, (1, 2)), (0, 7, (0, 1)), (0, -7, (0, 1)), (6, 3, (2, 1))):
            self.assertEqual(ratio_of(top, bottom), told)

    def test_sums_and_products(self):
        self.assertEqual(sum_of([]), (0, 1))
        self.assertEqual(product_of([]), (1, 1))
        chance = random.Random(71)
        for _ in range(200):
            values = [Fraction(chance.randint(-9, 9), chance.randint(1, 9))
                      for _ in range(chance.randint(1, 4))]
            ratios = [ratio(value) for value in values]
            self.assertEqual(sum_of(ratios), ratio(sum(values)))
            whole = Fraction(1)
            for value in values:
                whole *= value
            self.assertEqual(product_of(ratios), ratio(whole))
            tops, bottom = scaled(ratios)
            self.assertEqual([Fraction(top, bottom) for top in tops], values)

    def test_sums_by_keys(self):
        pairs = [("a", (1, 2)), ("b", (1, 3)), ("a", (1, 6)), ("b", (-1, 3)), ("c", (0, 1))]
        self.assertEqual(summed(pairs), {"a": (2, 3)})
        self.assertEqual(summed([]), {})


if __name__ == "__main__":
    unittest.main()
