"""Point [13]: vectors of trees, and the numbers that reads tell of them."""

import random
import unittest

from sameontrees.errors import BadForm, BadName, BadRows
from sameontrees.forms import number, vectors
from sameontrees.trees import rows_of, words_of
from tests import reference
from tests.common import (MIXED, MIXED_FORM, NEVER, PAIRS, S, dims_form, lone_form, raised, spoilt,
                          with_part)

LEAF = ("Leaf", ())
NODE = ("Node", (0, 0))


def doubled(many):
    """Rows of PAIRS, each a Node of the one ahead twice."""
    return (LEAF,) + tuple(("Node", (at, at)) for at in range(many - 1))


class Vectors(unittest.TestCase):

    def test_the_example(self):
        self.assertEqual(vectors(S, (LEAF, NODE)), (((1, 1), (1, 1)), ((1, 1), (3, 1))))
        self.assertEqual(vectors(S, (LEAF, LEAF, NODE, ("Node", (2, 1))))[1:],
                         (((1, 1), (1, 1)), ((1, 1), (3, 1)), ((1, 1), (5, 1))))

    def test_numbers_and_fractions(self):
        rows = (("One", (-5,)), ("End", ()), ("Item", (4, 0, 1)), ("Pair", (0, 0)), ("Box", (2,)))
        one = ((1, 1), (-5, 1), (31, 6))
        # 31/6 * 1/2 + 4 * -2/3 * 5
        item = ((-43, 4), (20, 1))
        box = ((0, 1), (60, 1), (0, 1))
        pair = ((1, 1), (-5, 1), reference.ratio(reference.Fraction(31, 6) ** 2 / 10))
        self.assertEqual(vectors(MIXED_FORM, rows), (one, ((1, 1), (-2, 3)), item, pair, box))

    def test_random_forms(self):
        chance = random.Random(21)
        asked = 0
        for _ in range(80):
            kinds = reference.random_kinds(chance)
            form = reference.random_form(chance, kinds, 4)
            for kind, _ in kinds:
                for size in range(1, 4):
                    trees = reference.trees_of_size(kinds, kind, size, (0, 1, -2, 7))
                    for tree in chance.sample(trees, min(3, len(trees))):
                        rows = rows_of(kinds, kind, reference.words_of_nested(tree))
                        told = [reference.vector_of_nested(form, reference.parsed(
                            kinds, words_of(kinds, rows[:at + 1]))) for at in range(len(rows))]
                        self.assertEqual(vectors(form, rows), tuple(
                            tuple(map(reference.ratio, vector)) for vector in told))
                        asked += 1
        self.assertGreater(asked, 300)

    def test_rows_that_share_parts(self):
        found = vectors(S, doubled(96))
        self.assertEqual(found, tuple(((1, 1), (2 ** (at + 1) - 1, 1)) for at in range(96)))
        self.assertGreater(found[-1][1][0], 10 ** 20)

    def test_great_integers(self):
        great = 10 ** 500 + 1
        rows = (("One", (great,)), ("Pair", (0, 0)))
        [one, pair] = vectors(MIXED_FORM, rows)
        last = reference.Fraction(7, 2) - reference.Fraction(great, 3)
        self.assertEqual(one, ((1, 1), (great, 1), reference.ratio(last)))
        self.assertEqual(pair, ((1, 1), (great, 1), reference.ratio(last ** 2 / 10)))

    def test_kinds_without_coordinates_and_makers_without_terms(self):
        self.assertEqual(vectors(lone_form(0), (("One", ()),) * 2), ((), ()))
        self.assertEqual(vectors(lone_form(2), (("One", ()),)), (((0, 1), (0, 1)),))
        self.assertEqual(vectors(dims_form(0, 2), (("Z1", ()), ("N1", (0,)), ("Z0", ()))),
                         (((0, 1), (0, 1)), ((0, 1), (0, 1)), ()))

    def test_wide_forms(self):
        terms = tuple((row, (), (row - 16, 1)) for row in range(32) if row != 16)
        wide = with_part(dims_form(32, 32), (2, 0, 0), terms)
        wide = with_part(wide, (2, 0, 1), ((31, (31,), (1, 7)),))
        self.assertEqual(vectors(wide, (("Z0", ()), ("N0", (0,)))), (
            tuple((row - 16, 1) for row in range(32)), ((0, 1),) * 31 + ((15, 7),)))

    def test_each_error(self):
        for thing in NEVER:
            raised(BadForm, vectors, thing, (LEAF,))
            raised(BadRows, vectors, S, thing)
        for rows in (*spoilt((LEAF, NODE)), (NODE,), (NODE, LEAF), (LEAF,) * 97, (("Leaf", (0,)),)):
            raised(BadRows, vectors, S, rows)
        raised(BadForm, vectors, S[:3], None)


class Numbers(unittest.TestCase):

    def test_the_example(self):
        self.assertEqual(number(S, "size", (LEAF,)), (1, 1))
        self.assertEqual(number(S, "size", (LEAF, NODE)), (3, 1))
        self.assertEqual(number(S, "size", (LEAF, NODE, LEAF)), (1, 1))

    def test_reads_of_several_kinds(self):
        rows = (("One", (-5,)), ("End", ()))
        self.assertEqual(number(MIXED_FORM, "one", rows), (1, 1))
        self.assertEqual(number(MIXED_FORM, "three", rows), (2, 9))
        self.assertEqual(number(MIXED_FORM, "two", rows[::-1]), (-18, 1))

    def test_random_forms(self):
        chance = random.Random(22)
        asked = 0
        for _ in range(80):
            kinds = reference.random_kinds(chance)
            form = reference.random_form(chance, kinds, 4)
            for name, kind, _ in form[3]:
                for size in range(1, 4):
                    for tree in reference.trees_of_size(kinds, kind, size, (0, 1, -2))[:4]:
                        rows = rows_of(kinds, kind, reference.words_of_nested(tree))
                        self.assertEqual(number(form, name, rows), reference.ratio(
                            reference.number_of_nested(form, name, tree)))
                        asked += 1
        self.assertGreater(asked, 300)

    def test_trees_that_are_too_great_to_be_gone_through(self):
        self.assertEqual(number(S, "size", doubled(96)), (2 ** 96 - 1, 1))

    def test_products_over_shared_parts(self):
        # Each Node tells the product of what its fields tell.
        form = (PAIRS, (1,), ((((0, (), (2, 3)),), ((0, (0, 0), (1, 1)),)),),
                (("f", "Tree", ((1, 1),)),))
        self.assertEqual(number(form, "f", doubled(12)), (2 ** 2048, 3 ** 2048))

    def test_a_read_of_a_kind_without_coordinates(self):
        form = lone_form(0, reads=(("r", "Dot", ()),))
        self.assertEqual(number(form, "r", (("One", ()),)), (0, 1))

    def test_each_error(self):
        for thing in NEVER:
            raised(BadForm, number, thing, "size", (LEAF,))
            raised(BadName, number, S, thing, (LEAF,))
            raised(BadRows, number, S, "size", thing)
        for name in ("sizes", "Size", "Tree", "Leaf", ("size",), ["size"]):
            raised(BadName, number, S, name, (LEAF,))

    def test_the_last_tree_is_of_another_kind(self):
        rows = (("One", (1,)), ("End", ()))
        self.assertEqual(number(MIXED_FORM, "one", rows), (1, 1))
        raised(BadRows, number, MIXED_FORM, "two", rows)
        raised(BadRows, number, MIXED_FORM, "one", rows[::-1])
        raised(BadRows, number, MIXED_FORM, "three", rows[:1])

    def test_the_order_of_errors(self):
        raised(BadForm, number, MIXED, None, None)
        raised(BadName, number, S, None, None)
        raised(BadName, number, MIXED_FORM, "four", (("One", (1,)),))


if __name__ == "__main__":
    unittest.main()
