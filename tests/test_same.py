"""Points [30] to [32]: joint forms, forms that tell the same, and the least tree that parts two."""

import random
import unittest

from sameontrees.equal import is_part, is_same, joint, same
from sameontrees.errors import BadForm, TooGreat, Unlike
from sameontrees.forms import is_form, number, vectors
from sameontrees.reached import closing, is_closing, reached
from sameontrees.trees import is_rows, rows_of
from tests import reference
from tests.common import (CHAIN, LEAVES, MIXED_FORM, NEVER, PAIRS, S, dims_form, full_form,
                          great_form, raised, spoilt, with_part)
from tests.disguise import beside, disguised, with_copies, with_zeros
from tests.reference import ratio
from tests.test_contexts import MIXED_ROWS
from tests.test_least import small_forms
from tests.wide import ring_form

ONE = (1, 1)
NONE = (0, 1)
TWO = (2, 1)
# It tells the size by the number of leaves.
SIZES = LEAVES[:3] + ((("size", "Tree", ((-1, 1), TWO)),),)
NODE = (("Leaf", ()), ("Node", (0, 0)))
PART = ("size", NODE, (3, 1), TWO)


def first_part(one, other, most, integers=(0, 1, -1, 2)):
    """What parts the forms among all trees to the size, found one by one; None if nothing does."""
    kinds = one[0]
    for name, kind, _ in one[3]:
        for tree in reference.all_trees(kinds, most, integers)[kind]:
            left, right = [reference.number_of_nested(form, name, tree) for form in (one, other)]
            if left != right:
                rows = rows_of(kinds, kind, reference.words_of_nested(tree))
                return ("part", name, rows, ratio(left), ratio(right))
    return None


class Joint(unittest.TestCase):

    def test_by_hand(self):
        told = joint(S, LEAVES)
        leaf = tuple((at, (), ONE) for at in range(4))
        node = S[2][0][1] + ((2, (2, 2), ONE), (3, (2, 3), ONE), (3, (3, 2), ONE))
        read = ("size", "Tree", (NONE, ONE, NONE, (-1, 1)))
        self.assertEqual(told, (PAIRS, (4,), ((leaf, node),), (read,)))

    def test_vectors_and_differences(self):
        chance = random.Random(131)
        for _ in range(60):
            kinds = reference.random_kinds(chance, 3, 3)
            one = reference.random_form(chance, kinds, 3)
            other = reference.random_form(chance, kinds, 3)
            other = other[:3] + (tuple((name, kind, (ONE,) * dict(zip([n for n, _ in kinds], other[1]))[kind])
                                       for name, kind, _ in one[3]),)
            told = joint(one, other)
            self.assertEqual(told[1], tuple(dim + more for dim, more in zip(one[1], other[1])))
            for kind, trees in reference.all_trees(kinds, 2, (0, 1, 5)).items():
                for tree in trees[:20]:
                    rows = reference.rows_of_nested(kinds, tree)
                    parts = vectors(one, rows)[-1] + vectors(other, rows)[-1]
                    self.assertEqual(vectors(told, rows)[-1], parts)
                    for name, own, _ in one[3]:
                        if own == kind:
                            left, right = [reference.number_of_nested(form, name, tree)
                                           for form in (one, other)]
                            self.assertEqual(reference.number_of_nested(told, name, tree), left - right)
            for own, first, second in zip(told[2], one[2], other[2]):
                self.assertEqual([len(terms) for terms in own],
                                 [len(terms) + len(more) for terms, more in zip(first, second)])

    def test_a_joint_form_is_a_wide_form(self):
        for form in (ring_form(16), great_form(6, 4000), dims_form(16, 16)):
            told = joint(form, form)
            self.assertIs(is_form(told), False)
            self.assertIs(is_closing(told, closing(told)), True)
            raised(BadForm, joint, told, form)
            raised(BadForm, joint, form, told)
            raised(BadForm, same, form, told)

    def test_errors_in_their_order(self):
        for function, more in ((joint, ()), (same, ()), (is_same, (None,)), (is_part, (None,))):
            for thing in NEVER:
                raised(BadForm, function, thing, S, *more)
                raised(BadForm, function, S, thing, *more)
            raised(BadForm, function, S, dims_form(17), *more)
            raised(BadForm, function, dims_form(17), dims_form(2), *more)
            for other in self.unlike():
                raised(Unlike, function, S, other, *more)
                raised(Unlike, function, other, S, *more)

    def unlike(self):
        """Forms that are not comparable with S."""
        kinds, dims, maps, ((name, kind, vector),) = S
        turned = ((("Tree", kinds[0][1][::-1]),), dims, (maps[0][::-1],), S[3])
        named = ((("Tree", (("Leaf", ()), ("Fork", ("Tree", "Tree")))),), dims, maps, S[3])
        more = kinds + (("Other", (("Dot", ()),)),)
        return (S[:3] + ((),), S[:3] + (((name, kind, vector), ("more", kind, vector)),),
                S[:3] + ((("sizes", kind, vector),),), turned, named,
                (more, dims + (0,), maps + (((),),), S[3]), MIXED_FORM)

    def test_the_sequence_and_the_kinds_of_reads(self):
        one, two, three = MIXED_FORM[3]
        other = MIXED_FORM[:3] + ((two, one, three),)
        raised(Unlike, same, MIXED_FORM, other)
        kind = MIXED_FORM[:3] + ((("one", "Item", two[2]), two, three),)
        raised(Unlike, same, MIXED_FORM, kind)
        renamed = MIXED_FORM[:3] + ((("won",) + one[1:], two, three),)
        raised(Unlike, same, MIXED_FORM, renamed)
        changed = MIXED_FORM[:3] + ((one, two, ("three", "List", (ONE, ONE))),)
        self.assertEqual(same(MIXED_FORM, changed)[:2], ("part", "three"))


class Same(unittest.TestCase):

    def judged(self, one, other):
        """What same tells of forms that tell the same."""
        told = same(one, other)
        self.assertEqual(len(told), 2)
        word, shown = told
        self.assertEqual((word, shown), ("same", closing(joint(one, other))))
        self.assertIs(is_same(one, other, shown), True)
        self.assertIs(is_same(other, one, closing(joint(other, one))), True)
        return shown

    def parted(self, one, other):
        """What same tells of forms that are parted."""
        told = same(one, other)
        self.assertEqual(told[0], "part")
        _, name, rows, left, right = told
        self.assertIs(is_rows(one[0], rows), True)
        self.assertEqual((number(one, name, rows), number(other, name, rows)), (left, right))
        self.assertIs(is_part(one, other, told[1:]), True)
        self.assertIs(is_part(other, one, (name, rows, right, left)), True)
        self.assertEqual(same(other, one), ("part", name, rows, right, left))
        return told

    def test_the_examples(self):
        self.assertEqual(self.parted(S, LEAVES), ("part",) + PART)
        rows, basis, _ = self.judged(S, SIZES)
        self.assertEqual((rows, basis), (NODE, ((0, 1),)))
        self.assertEqual(vectors(joint(S, SIZES), rows), ((ONE,) * 4, (ONE, (3, 1), ONE, TWO)))

    def test_against_all_trees(self):
        chance = random.Random(132)
        parted = 0
        for form, most in small_forms(133, 150, 2):
            other = reference.random_form(chance, form[0], 2)
            dims = dict(zip([kind for kind, _ in form[0]], other[1]))
            other = other[:3] + (tuple((name, kind, tuple(chance.choice((NONE, ONE, TWO))
                                                          for _ in range(dims[kind])))
                                       for name, kind, _ in form[3]),)
            told = same(form, other)
            if told[0] == "same":
                self.judged(form, other)
                self.assertIsNone(first_part(form, other, 3, (0, 1)))
            else:
                parted += 1
                self.parted(form, other)
                if len(reference.words_of_nested(reference.nested_rows(form[0], told[2])[-1])) < 5:
                    self.assertEqual(told, first_part(form, other, 4))
        self.assertGreater(parted, 40)

    def test_forms_in_other_coordinates_tell_the_same(self):
        chance = random.Random(134)
        for form, _ in small_forms(135, 30, 2):
            for other in (form, disguised(chance, form), with_copies(form),
                          with_zeros(form, (1,) * len(form[0])),
                          beside(form, reference.random_form(chance, form[0], 2))):
                self.judged(form, other)

    def test_a_tree_of_many_makers(self):
        # The rings tell the same of chains with up to six makers.
        for dim, other in ((7, 12), (12, 7), (16, 15), (3, 2)):
            told = self.parted(ring_form(dim), ring_form(other))
            depth = min(dim, other)
            self.assertEqual(told[2], (("Zero", ()),) + tuple(("Next", (at,)) for at in range(depth - 1)))
            self.assertEqual(told[3:], (ONE, NONE) if dim < other else (NONE, ONE))

    def test_an_integer_1_of_a_number_field(self):
        mark = ((0, (0, 0), ONE),)
        one = (CHAIN, (1,), ((((0, (), ONE),), ((0, (0,), ONE),), mark),), (("r", "Nat", (ONE,)),))
        other = with_part(one, (2, 0, 2), ((0, (0, 0), ONE), (0, (1, 0), TWO)))
        rows = (("Zero", ()), ("Mark", (1, 0)))
        self.assertEqual(self.parted(one, other), ("part", "r", rows, ONE, (3, 1)))
        less = with_part(one, (2, 0, 2), ((0, (1, 0), ONE),))
        self.assertEqual(self.parted(other, less), ("part", "r", (("Zero", ()), ("Mark", (0, 0))), ONE, NONE))

    def test_the_second_read_alone(self):
        one = S[:3] + (S[3] + (("more", "Tree", (ONE, ONE)),),)
        other = S[:3] + (S[3] + (("more", "Tree", (TWO, ONE)),),)
        self.assertEqual(self.parted(one, other), ("part", "more", NODE[:1], TWO, (3, 1)))
        # The first read parts by a greater tree; the second would by the least one.
        first = LEAVES[:3] + (LEAVES[3] + (("more", "Tree", (TWO, ONE)),),)
        self.assertEqual(self.parted(one, first), ("part",) + PART)

    def test_rows_have_just_the_parts(self):
        # The joint form has basis trees of both kinds, the tree that parts has few of them.
        other = with_part(MIXED_FORM, (3, 1, 2, 1), (3, 4))
        told = self.parted(MIXED_FORM, other)
        self.assertEqual(told[1:3], ("two", (("One", (1,)),)))
        self.assertGreater(len(reached(joint(MIXED_FORM, other))[0]), 4)
        two = MIXED_FORM[:3] + (MIXED_FORM[3][1:2],)
        told = self.parted(two, with_part(two, (2, 1, 2), ((1, (1,), (4, 1)),)))
        self.assertEqual(told[2], (("End", ()), ("Box", (0,))))

    def test_no_reads_and_no_trees(self):
        unread = S[:3] + ((),)
        self.judged(unread, LEAVES[:3] + ((),))
        self.judged(dims_form(2, 1), dims_form(1, 2))
        alone = (("T", (("Next", ("T",)),)),)
        one = (alone, (1,), ((((0, (0,), ONE),),),), (("r", "T", (ONE,)),))
        self.judged(one, (alone, (0,), (((),),), (("r", "T", ()),)))

    def test_too_great(self):
        great = full_form(20001)
        raised(TooGreat, same, great, great)
        # The first basis tree parts them, but there are too many makers over the basis trees.
        reads = (("last", "T", (ONE,) + (NONE,) * 9),)
        raised(TooGreat, same, great, great[:3] + (reads,))
        self.assertEqual(same(full_form(20000), full_form(20000)[:3] + (reads,))[0], "part")
        self.judged(full_form(20000), full_form(20000))


class IsSame(unittest.TestCase):

    def test_closings_with_other_trees(self):
        form = joint(S, SIZES)
        rows = NODE + (("Node", (1, 1)),)
        for trees in ((0, 2), (2, 1), (1, 0)):
            shown = (rows, (trees,), reference.sums_over(form, rows, (trees,)))
            self.assertIs(is_same(S, SIZES, shown), True)
        self.assertIs(is_same(S, SIZES, (rows, ((0,),), reference.sums_over(form, rows, ((0, 1),)))),
                      False)

    def test_closings_of_forms_that_are_parted(self):
        self.assertIs(is_closing(joint(S, LEAVES), closing(joint(S, LEAVES))), True)
        self.assertIs(is_same(S, LEAVES, closing(joint(S, LEAVES))), False)
        other = S[:3] + ((("size", "Tree", (ONE, ONE)),),)
        self.assertIs(is_same(S, other, closing(joint(S, other))), False)

    def test_closings_of_other_forms(self):
        shown = closing(joint(S, SIZES))
        self.assertIs(is_same(S, SIZES, shown), True)
        self.assertIs(is_same(S, LEAVES, shown), False)
        self.assertIs(is_same(S, SIZES, closing(S)), True)
        self.assertEqual(closing(S), shown)
        self.assertIs(is_same(S, S, closing(dims_form(2))), False)
        self.assertIs(is_same(S, SIZES, ("same", shown)), False)
        self.assertIs(is_same(S, SIZES, ("same",) + shown), False)

    def test_another_thing_at_each_place(self):
        shown = closing(joint(S, SIZES))
        for version in spoilt(shown):
            self.assertIs(is_same(S, SIZES, version), False)
        for thing in NEVER:
            self.assertIs(is_same(S, SIZES, thing), False)
        rows, basis, sums = shown
        self.assertIs(is_same(S, SIZES, (rows, basis, with_part(sums, (0, 1, 3, 1), (2, 1)))), False)
        self.assertIs(is_same(S, SIZES, (rows, ((),), sums)), False)

    def test_it_does_not_ask_what_is_reached(self):
        self.assertIs(is_same(full_form(20001), full_form(20001), None), False)
        self.assertIs(is_part(full_form(20001), full_form(20001), None), False)


class IsPart(unittest.TestCase):

    def test_it_need_not_be_the_least_one(self):
        rows = NODE + (("Node", (0, 1)), ("Node", (1, 2)))
        self.assertIs(is_part(S, LEAVES, ("size", rows, (9, 1), (5, 1))), True)
        self.assertIs(is_part(S, LEAVES, ("size", rows[:3], (5, 1), (3, 1))), True)
        self.assertIs(is_part(S, LEAVES, ("size", NODE * 2, (3, 1), TWO)), True)

    def test_numbers_that_are_not_told(self):
        self.assertIs(is_part(S, LEAVES, PART), True)
        for left, right in ((TWO, (3, 1)), ((3, 1), (3, 1)), (TWO, TWO), ((3, 1), ONE), (ONE, TWO)):
            self.assertIs(is_part(S, LEAVES, ("size", NODE, left, right)), False)
        self.assertIs(is_part(S, LEAVES, ("size", NODE[:1], ONE, ONE)), False)
        self.assertIs(is_part(S, SIZES, ("size", NODE, (3, 1), (3, 1))), False)
        for left in ((6, 2), (3,), 3, (3, 1, 1), (-3, -1), [3, 1], ("3", 1)):
            self.assertIs(is_part(S, LEAVES, ("size", NODE, left, TWO)), False)
            self.assertIs(is_part(LEAVES, S, ("size", NODE, TWO, left)), False)

    def test_true_and_false_are_no_integers(self):
        one = S[:3] + ((("size", "Tree", (ONE, NONE)),),)
        other = S[:3] + ((("size", "Tree", (NONE, NONE)),),)
        self.assertIs(is_part(one, other, ("size", NODE, ONE, NONE)), True)
        for left, right in (((True, 1), NONE), ((1, True), NONE), (ONE, (False, 1)), (ONE, (0, True))):
            self.assertIs(is_part(one, other, ("size", NODE, left, right)), False)

    def test_names_and_trees_of_other_kinds(self):
        other = with_part(MIXED_FORM, (3, 0, 2, 0), TWO)
        name, rows, left, right = same(MIXED_FORM, other)[1:]
        self.assertIs(is_part(MIXED_FORM, other, (name, rows, left, right)), True)
        for wrong in ("two", "three", "ones", "", "List", None, 0, ("one",)):
            self.assertIs(is_part(MIXED_FORM, other, (wrong, rows, left, right)), False)
        self.assertEqual(number(MIXED_FORM, "one", MIXED_ROWS[:3]), (91, 12))
        self.assertIs(is_part(MIXED_FORM, other, ("one", MIXED_ROWS[:3], (91, 12), (91, 5))), False)
        told = number(other, "one", MIXED_ROWS[:3])
        self.assertIs(is_part(MIXED_FORM, other, ("one", MIXED_ROWS[:3], (91, 12), told)), True)
        for many in (2, 4, 5):
            self.assertIs(is_part(MIXED_FORM, other, ("one", MIXED_ROWS[:many], (91, 12), told)), False)

    def test_another_thing_at_each_place(self):
        for version in spoilt(PART):
            self.assertIs(is_part(S, LEAVES, version), False)
        for thing in NEVER:
            self.assertIs(is_part(S, LEAVES, thing), False)
            for at in range(4):
                self.assertIs(is_part(S, LEAVES, with_part(PART, (at,), thing)), False)
        self.assertIs(is_part(S, LEAVES, ("part",) + PART), False)
        self.assertIs(is_part(S, LEAVES, PART[:3]), False)
        self.assertIs(is_part(S, LEAVES, ("size", (), (3, 1), TWO)), False)
        self.assertIs(is_part(S, LEAVES, ("size", (("Node", (0, 0)),), (3, 1), TWO)), False)


if __name__ == "__main__":
    unittest.main()
