"""Points [24] and [25]: state trees and least forms."""

import random
import unittest

from sameontrees.errors import BadForm, TooGreat
from sameontrees.forms import formed, is_form, number
from sameontrees.least import least, tables
from sameontrees.programs import read_program
from sameontrees.reached import reached
from sameontrees.trees import sizes
from tests import reference
from tests.common import (BINARY, MIXED_FORM, NEVER, PAIRS, S, dims_form, full_form, lone_form,
                          raised)
from tests.disguise import beside, disguised, easy_base, with_copies, with_zeros
from tests.wide import products_form, ring_form

ONE = (1, 1)
NONE = (0, 1)

# The example of Part G.
LEAST_S = (PAIRS, (2,), ((((0, (), ONE),),
                          ((0, (0, 1), (-1, 1)), (0, (1, 0), (-1, 1)), (0, (1, 1), (-2, 1)),
                           (1, (0, 0), ONE), (1, (0, 1), (2, 1)), (1, (1, 0), (2, 1)),
                           (1, (1, 1), (3, 1)))),), (("size", "Tree", (ONE, (3, 1))),))


def small_forms(seed, many, most_dim=3):
    """Random forms whose basis trees have at most four makers, with the greatest size of one."""
    chance = random.Random(seed)
    while many > 0:
        kinds = reference.random_kinds(chance, 3, 2)
        form = reference.random_form(chance, kinds, most_dim, 0.5)
        rows, _ = reached(form)
        most = max(sizes(kinds, rows), default=1) if rows else 1
        trees = sum(len(reference.trees_of_size(kinds, kind, most, (0, 1))) for kind, _ in kinds)
        if most <= 4 and trees < 400:
            many -= 1
            yield form, most


class Least(unittest.TestCase):

    def judged(self, form):
        """The least form, which is one, and of which the least form is itself."""
        told = least(form)
        self.assertIs(is_form(told), True)
        self.assertEqual(told[0], form[0])
        self.assertEqual([read[:2] for read in told[3]], [read[:2] for read in form[3]])
        self.assertTrue(all(one <= other for one, other in zip(told[1], form[1])))
        self.assertEqual(least(told), told)
        return told

    def test_the_example(self):
        self.assertEqual(self.judged(S), LEAST_S)

    def test_against_all_trees(self):
        for form, most in small_forms(91, 120):
            told = self.judged(form)
            self.assertEqual(told, reference.least_by_trees(form, most, (0, 1)))

    def test_it_tells_the_same_numbers(self):
        for form, _ in small_forms(92, 40):
            told = self.judged(form)
            trees = reference.all_trees(form[0], 3, (0, 1, -2))
            for name, kind, _ in form[3]:
                for tree in trees[kind][:40]:
                    self.assertEqual(reference.number_of_nested(told, name, tree),
                                     reference.number_of_nested(form, name, tree))

    def test_other_coordinates(self):
        chance = random.Random(93)
        for form, _ in small_forms(94, 40, 2):
            told = self.judged(form)
            for other in (disguised(chance, form), with_copies(form),
                          disguised(chance, with_copies(form)),
                          with_zeros(form, (1,) * len(form[0])),
                          beside(form, reference.random_form(chance, form[0], 2))):
                self.assertEqual(least(other), told)

    def test_sixteen_coordinates(self):
        chance = random.Random(95)
        form = ring_form(16)
        told = self.judged(form)
        self.assertEqual(told[1], (16,))
        self.assertEqual(told, form)
        self.assertEqual(least(disguised(chance, form)), told)
        eight = ring_form(8)
        self.assertEqual(least(disguised(chance, with_copies(eight))), eight)
        self.assertEqual(least(disguised(chance, disguised(chance, form, easy_base))), told)

    def test_number_fields(self):
        # At the coordinate 1 what the integer 1 makes less what 0 makes, field by field.
        kinds = (("T", (("Two", ("number", "number")),)),)
        two = ((0, (0, 0), (2, 1)), (0, (0, 1), (3, 1)), (0, (1, 0), (5, 1)), (0, (1, 1), (7, 1)))
        form = (kinds, (1,), ((two,),), (("r", "T", (ONE,)),))
        half = tuple((0, cols, (top, 2)) if top % 2 else (0, cols, ONE) for _, cols, (top, _) in two)
        # The state tree Two 0 0 tells 2.
        self.assertEqual(self.judged(form), (kinds, (1,), ((half,),), (("r", "T", ((2, 1),)),)))
        sums = formed(read_program("kind Tree { Leaf() Node(Tree, number, Tree) } fun sum(Tree) {"
                                   "Leaf() = 0; Node(l, n, r) = (sum(l) + n + sum(r)); }"))
        told = self.judged(sums)
        # The state trees are Leaf and Node Leaf 1 Leaf.
        self.assertEqual((told[1], told[3]), ((2,), (("sum", "Tree", (NONE, ONE)),)))
        words = (("Leaf", ()), ("Node", (0, 5, 0)), ("Node", (1, -7, 0)))
        self.assertEqual(number(told, "sum", words), (-2, 1))

    def test_kinds_without_trees_and_reads(self):
        alone = (("T", (("Next", ("T",)), ("Two", ("T", "number", "T")))),)
        form = (alone, (1,), ((((0, (0,), ONE),), ((0, (0, 1, 0), ONE),)),), (("r", "T", (ONE,)),))
        self.assertEqual(self.judged(form), (alone, (0,), (((), ()),), (("r", "T", ()),)))
        self.assertEqual(self.judged(S[:3] + ((),)), (PAIRS, (0,), (((), ()),), ()))
        nothing = (PAIRS, (2,), (((), ()),), (("r", "Tree", (ONE, ONE)),))
        self.assertEqual(self.judged(nothing), (PAIRS, (0,), (((), ()),), (("r", "Tree", ()),)))
        self.assertEqual(self.judged(dims_form(0, 0)), dims_form(0, 0))
        leaf = lone_form(2, ((0, (), (3, 2)), (1, (), (5, 1))), (("r", "Dot", ((2, 1), NONE)),))
        self.assertEqual(self.judged(leaf), lone_form(1, ((0, (), ONE),), (("r", "Dot", ((3, 1),)),)))

    def test_what_one_kind_is_seen_by_is_another_one(self):
        # Lists tell nothing but by the items that have them.
        reads = tuple(read for read in MIXED_FORM[3] if read[1] == "Item")
        form = MIXED_FORM[:3] + (reads,)
        told = self.judged(form)
        self.assertEqual(told, reference.least_by_trees(form, 4, (0, 1)))
        self.assertEqual(told[1], (2, 3))

    def test_two_forms_that_tell_unlike_numbers(self):
        for one, other in ((NONE, NONE), (ONE, NONE), (ONE, ONE), (NONE, (2, 1)), ((1, 2), (2, 3))):
            form = S[:3] + ((("size", "Tree", (one, other)),),)
            self.assertNotEqual(least(form), LEAST_S)


class TooGreatForms(unittest.TestCase):

    def test_4000_terms_and_more(self):
        form = products_form((8, 10, 5), ("A", "B", "B", "C"))
        told = least(form)
        self.assertEqual(len(told[2][3][1]), 4000)
        self.assertIs(is_form(told), True)
        self.assertEqual(least(told), told)
        more = products_form((8, 10, 5), ("A", "B", "B", "C"), True)
        self.assertIs(is_form(more), True)
        raised(TooGreat, least, more)
        self.assertEqual([len(trees) for trees, _, _ in tables(more)[1]], [8, 10, 5, 2])
        raised(TooGreat, least, products_form((8,), ("A",) * 4))
        self.assertEqual(len(least(products_form((7,), ("A",) * 4))[2][1][1]), 7 ** 4)

    def test_makers_over_basis_trees(self):
        raised(TooGreat, least, full_form(20001))
        raised(TooGreat, tables, full_form(20001))
        self.assertEqual(len(tables(full_form(20000))[1]), len(full_form(20000)[0]))

    def test_wrong_forms(self):
        for thing in NEVER:
            raised(BadForm, least, thing)
            raised(BadForm, tables, thing)
        for wide in (dims_form(17), dims_form(16, 16, 1), (BINARY, (17,), (((), ()),), ())):
            raised(BadForm, least, wide)
            raised(BadForm, tables, wide)


if __name__ == "__main__":
    unittest.main()
