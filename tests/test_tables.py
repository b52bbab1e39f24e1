"""Points [24] and [26]: tables of state trees in contexts, and what is judged to be one."""

import random
import unittest

from sameontrees.errors import BadForm, BadKind, BadRows
from sameontrees.forms import vectors
from sameontrees.least import is_table, least, tables
from sameontrees.matrices import inverse, times_matrix
from sameontrees.reached import reached
from sameontrees.seen import covector
from tests import reference
from tests.common import (MIXED, MIXED_FORM, NEVER, S, dims_form, full_form, raised, spoilt,
                          with_part)
from tests.disguise import disguised, with_copies
from tests.reference import as_fractions, ratio
from tests.test_contexts import MIXED_ROWS, ROWS, chain_form, next_steps
from tests.test_least import small_forms
from tests.wide import products_form, ring_form

ONE = (1, 1)
NONE = (0, 1)
EXAMPLE = ((0, 1), ((0, ()), (0, (("Node", 0, (0,)),))), (((-5, 4), (3, 4)), ((3, 4), (-1, 4))))


def identity(many):
    """The matrix with 1 at equal places and 0 else."""
    return tuple(tuple((int(at == place), 1) for place in range(many)) for at in range(many))


def table_over(form, rows, trees, contexts):
    """What each of the contexts tells of each of the trees, a row for each tree."""
    told = vectors(form, rows) if rows else ()
    covectors = [as_fractions(covector(form, rows, context)) for context in contexts]
    return tuple(tuple(ratio(reference.product_with(one, as_fractions(told[at])))
                       for one in covectors) for at in trees)


class Tables(unittest.TestCase):

    def judged(self, form):
        """The tables, each with its inverse, there and back."""
        told = tables(form)
        rows, found = told
        self.assertEqual(rows, reached(form)[0])
        self.assertEqual(len(found), len(form[0]))
        for (kind, _), (trees, contexts, back) in zip(form[0], found):
            self.assertEqual(list(trees), sorted(trees))
            table = table_over(form, rows, trees, contexts)
            self.assertEqual(len(contexts), len(trees))
            self.assertEqual(times_matrix(table, back), identity(len(trees)))
            self.assertEqual(times_matrix(back, table), identity(len(trees)))
            self.assertIs(is_table(form, rows, kind, (trees, contexts, back)), True)
        return told

    def test_the_example(self):
        rows, ((trees, contexts, _),) = self.judged(S)
        self.assertEqual((rows, trees, len(contexts)), (ROWS[:2], (0, 1), 2))
        self.assertIs(is_table(S, rows, "Tree", EXAMPLE), True)
        self.assertEqual(table_over(S, rows, (0, 1), EXAMPLE[1]), ((ONE, (3, 1)), ((3, 1), (5, 1))))

    def test_state_trees_against_all_trees(self):
        for form, most in small_forms(101, 60):
            rows, found = self.judged(form)
            nested = reference.nested_rows(form[0], rows)
            told = [[nested[at] for at in trees] for trees, _, _ in found]
            self.assertEqual(told, reference.state_trees(form, most, (0, 1)))
            self.assertEqual(tuple(len(trees) for trees, _, _ in found), least(form)[1])

    def test_state_trees_hang_on_the_numbers_alone(self):
        chance = random.Random(102)
        for form, _ in small_forms(103, 25, 2):
            rows, found = self.judged(form)
            nested = reference.nested_rows(form[0], rows)
            other = disguised(chance, with_copies(form))
            other_rows, other_found = self.judged(other)
            other_nested = reference.nested_rows(form[0], other_rows)
            self.assertEqual([[nested[at] for at in trees] for trees, _, _ in found],
                             [[other_nested[at] for at in trees] for trees, _, _ in other_found])

    def test_contexts_that_were_numbered_for_one_form_fit_another_one(self):
        # A table with an inverse shows how many coordinates each form needs.
        chance = random.Random(104)
        for form, _ in small_forms(105, 20, 2):
            rows, found = tables(form)
            other = disguised(chance, with_copies(form))
            for (kind, _), table in zip(form[0], found):
                self.assertIs(is_table(other, rows, kind, table), True)
                self.assertIs(is_table(least(form), rows, kind, table), True)

    def test_no_trees_and_no_reads(self):
        self.assertEqual(self.judged(S[:3] + ((),)), (ROWS[:2], (((), (), ()),)))
        self.assertEqual(self.judged(dims_form(0, 2)), ((), (((), (), ()),) * 2))

    def test_many_coordinates(self):
        rows, ((trees, _, _),) = self.judged(ring_form(16))
        self.assertEqual((len(rows), len(trees)), (16, 16))
        # The least form would have more than 4,000 terms; tables do not ask for it.
        _, found = self.judged(products_form((8, 10, 5), ("A", "B", "B", "C"), True))
        self.assertEqual([len(trees) for trees, _, _ in found], [8, 10, 5, 2])
        self.judged(full_form(20000))


class IsTable(unittest.TestCase):

    def test_trees_and_contexts_in_another_order(self):
        trees, contexts, back = EXAMPLE
        turned = (trees[::-1], contexts, tuple(row[::-1] for row in back))
        self.assertIs(is_table(S, ROWS, "Tree", turned), True)
        self.assertIs(is_table(S, ROWS, "Tree", (trees[::-1], contexts, back)), False)
        swapped = (trees, contexts[::-1], back[::-1])
        self.assertIs(is_table(S, ROWS, "Tree", swapped), True)
        self.assertIs(is_table(S, ROWS, "Tree", (trees, contexts[::-1], back)), False)

    def test_fewer_trees(self):
        self.assertIs(is_table(S, ROWS, "Tree", ((), (), ())), True)
        self.assertIs(is_table(S, (), "Tree", ((), (), ())), True)
        self.assertIs(is_table(S, ROWS, "Tree", ((1,), ((0, ()),), (((1, 3),),))), True)
        self.assertIs(is_table(S, ROWS, "Tree", ((1,), ((0, ()),), (((3, 1),),))), False)
        self.assertIs(is_table(S, ROWS, "Tree", ((), (), ((),))), False)

    def test_trees_that_are_no_state_trees(self):
        contexts = EXAMPLE[1]
        for trees in ((0, 2), (2, 0), (1, 2), (2, 1)):
            back = inverse(table_over(S, ROWS, trees, contexts))
            self.assertIs(is_table(S, ROWS, "Tree", (trees, contexts, back)), True)

    def test_more_trees_than_coordinates_and_equal_ones(self):
        contexts = EXAMPLE[1] + ((0, (("Node", 1, (0,)),)),)
        for back in (identity(3), ((ONE,) * 3,) * 3):
            self.assertIs(is_table(S, ROWS, "Tree", ((0, 1, 2), contexts, back)), False)
        self.assertIs(is_table(S, ROWS, "Tree", ((0, 0), EXAMPLE[1], EXAMPLE[2])), False)
        self.assertIs(is_table(S, ROWS, "Tree", ((0, 1), EXAMPLE[1][:1] * 2, EXAMPLE[2])), False)

    def test_wrong_inverses(self):
        trees, contexts, back = EXAMPLE
        for at in (0, 1):
            for place in (0, 1):
                for entry in (NONE, (-1, 1), (3, 2), (-5, 3)):
                    wrong = with_part(back, (at, place), entry)
                    self.assertIs(is_table(S, ROWS, "Tree", (trees, contexts, wrong)), False)
        for wrong in ((), back[:1], (back[0][:1], back[1][:1]), back + ((NONE, NONE),),
                      tuple(row + (NONE,) for row in back), back + ((),), ((), ())):
            self.assertIs(is_table(S, ROWS, "Tree", (trees, contexts, wrong)), False)

    def test_numbers_of_trees_and_contexts_that_differ(self):
        trees, contexts, back = EXAMPLE
        self.assertIs(is_table(S, ROWS, "Tree", (trees + (2,), contexts, back)), False)
        self.assertIs(is_table(S, ROWS, "Tree", (trees[:1], contexts, back)), False)
        self.assertIs(is_table(S, ROWS, "Tree", (trees, contexts + contexts[:1], back)), False)
        self.assertIs(is_table(S, ROWS, "Tree", (trees, contexts[:1], back)), False)

    def test_indexes_of_no_rows_and_of_another_kind(self):
        rows, found = tables(MIXED_FORM)
        for (kind, _), table in zip(MIXED, found):
            self.assertIs(is_table(MIXED_FORM, rows, kind, table), True)
        self.assertIs(is_table(MIXED_FORM, rows, "List", found[1]), False)
        self.assertIs(is_table(MIXED_FORM, rows, "Item", found[0]), False)
        for trees in ((0, 3), (-2, 1), (0, 10 ** 20), (0, -1)):
            self.assertIs(is_table(S, ROWS, "Tree", (trees,) + EXAMPLE[1:]), False)
        trees, contexts, back = found[0]
        items = [at for at, (maker, _) in enumerate(rows) if maker in ("One", "Pair", "Box")]
        wrong = ((trees[0], items[0]), contexts, back)
        self.assertIs(is_table(MIXED_FORM, rows, "List", wrong), False)

    def test_rows_of_any_trees(self):
        contexts = ((0, ()), (1, (("Pair", 1, (1,)), ("Box", 0, ()))))
        back = inverse(table_over(MIXED_FORM, MIXED_ROWS, (0, 2), contexts))
        self.assertIs(is_table(MIXED_FORM, MIXED_ROWS, "List", ((0, 2), contexts, back)), True)
        self.assertIs(is_table(MIXED_FORM, MIXED_ROWS[:2], "List", ((0, 2), contexts, back)), False)

    def test_96_steps(self):
        form = chain_form()
        rows = (("Zero", ()), ("Next", (0,)))
        for many in (96, 97):
            contexts = ((0, ()), (0, next_steps(many)))
            told = (((3, 1), (1 + 2 * many + 2, 1)), ((5, 1), (1 + 2 * many + 4, 1)))
            self.assertIs(is_table(form, rows, "Nat", ((0, 1), contexts, inverse(told))), many == 96)

    def test_another_thing_at_each_place(self):
        for version in spoilt(EXAMPLE):
            self.assertIs(is_table(S, ROWS, "Tree", version), False)
        for thing in NEVER:
            self.assertIs(is_table(S, ROWS, "Tree", thing), False)
            self.assertIs(is_table(S, ROWS, "Tree", (thing,) + EXAMPLE[1:]), False)
            self.assertIs(is_table(S, ROWS, "Tree", EXAMPLE[:1] + (thing,) + EXAMPLE[2:]), False)
            self.assertIs(is_table(S, ROWS, "Tree", EXAMPLE[:2] + (thing,)), False)
        self.assertIs(is_table(S, ROWS, "Tree", EXAMPLE + ((),)), False)

    def test_errors_in_their_order(self):
        raised(BadForm, is_table, None, None, None, None)
        raised(BadForm, is_table, dims_form(17), (), "K0", ((), (), ()))
        raised(BadRows, is_table, S, None, None, None)
        raised(BadRows, is_table, S, MIXED_ROWS, "Tree", EXAMPLE)
        for kind in ("Leaf", "tree", "", "number", None, ("Tree",), 0, b"Tree"):
            raised(BadKind, is_table, S, ROWS, kind, EXAMPLE)
            raised(BadKind, is_table, S, (), kind, None)

    def test_it_does_not_ask_what_is_reached(self):
        form = full_form(20001)
        self.assertIs(is_table(form, (), "T", ((), (), ())), True)
        rows = (("Leaf", ()), ("Next", (0,)))
        self.assertIs(is_table(form, rows, "T", ((0,), ((0, ()),), (((1, 1),),))), False)


if __name__ == "__main__":
    unittest.main()
