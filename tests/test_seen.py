"""Points [22] and [23]: contexts that make all others."""

import random
import unittest

from sameontrees.errors import BadForm, TooGreat
from sameontrees.forms import is_form
from sameontrees.reached import reached
from sameontrees.seen import covector, is_seen, seen
from tests import reference
from tests.common import (BINARY, CHAIN, MIXED_FORM, NEVER, PAIRS, S, dims_form, full_form, lone_form,
                          raised, spoilt, with_part)
from tests.disguise import disguised, with_copies
from tests.reference import as_fractions
from tests.test_contexts import MIXED_ROWS, ROWS, chain_form, next_steps

ONE = (1, 1)
NONE = (0, 1)


class Seen(unittest.TestCase):

    def judged(self, form, most=3, integers=(0, 1)):
        """What seen tells, held against covectors over all trees to the size."""
        told = seen(form)
        rows, contexts = told
        self.assertEqual(rows, reached(form)[0])
        self.assertEqual(len(contexts), len(form[0]))
        self.assertIs(is_seen(form, told), True)
        for own, all_made in zip(contexts, reference.seen_covectors(form, most, integers)):
            covectors = [as_fractions(covector(form, rows, context)) for context in own]
            self.assertEqual(len(reference.independent(covectors)), len(covectors))
            self.assertEqual(len(covectors), len(all_made))
            for other in all_made:
                self.assertIsNotNone(reference.weights_of(covectors, other))
        return told

    def test_the_example(self):
        rows, contexts = self.judged(S)
        self.assertEqual(rows, (("Leaf", ()), ("Node", (0, 0))))
        self.assertEqual([len(own) for own in contexts], [2])

    def test_two_kinds_and_number_fields(self):
        _, contexts = self.judged(MIXED_FORM, 3)
        self.assertEqual([len(own) for own in contexts], [2, 3])

    def test_no_reads_and_reads_that_tell_0(self):
        for reads in ((), (("r", "Tree", (NONE, NONE)),)):
            form = S[:3] + (reads,)
            self.assertEqual(self.judged(form), (reached(form)[0], ((),)))

    def test_no_coordinates(self):
        self.assertEqual(self.judged(dims_form(0, 0)), ((), ((), ())))
        self.assertEqual(self.judged(lone_form(0)), ((), ((),)))

    def test_a_form_of_which_nothing_is_reached(self):
        # No maker has terms; but a read tells something of the vectors, whatever trees there are.
        form = (PAIRS, (3,), (((), ()),), (("r", "Tree", (NONE, ONE, ONE)),))
        self.assertEqual(self.judged(form), ((), (((0, ()),),)))

    def test_kinds_without_trees_are_seen(self):
        kinds = (("T", (("Leaf", ()), ("Into", ("U", "number", "T")))),
                 ("U", (("Next", ("U", "V")), ("Turn", ("number", "U")))),
                 ("V", (("Back", ("V",)),)))
        into = ((0, (0, 0, 0), ONE), (0, (1, 1, 0), (2, 1)))
        turn = ((0, (0, 2), ONE), (1, (0, 0), (5, 1)), (1, (1, 2), ONE), (2, (1, 1), (3, 1)))
        form = (kinds, (1, 3, 1), ((((0, (), ONE),), into), ((), turn), (((0, (0,), ONE),),)),
                (("r", "T", (ONE,)), ("s", "V", ((4, 1),))))
        rows, contexts = self.judged(form)
        self.assertEqual(rows, (("Leaf", ()),))
        self.assertEqual([len(own) for own in contexts], [1, 3, 1])
        # A step into U needs a tree at the field of the kind T, and none of V.
        self.assertEqual({step[0] for _, steps in contexts[1] for step in steps}, {"Into", "Turn"})

    def test_a_read_of_a_kind_without_trees(self):
        alone = (("T", (("Next", ("T",)), ("Two", ("T", "number", "T")))),)
        maps = ((((0, (1,), ONE), (1, (2,), ONE), (2, (0,), ONE)), ((0, (0, 0, 0), ONE),)),)
        form = (alone, (3,), maps, (("r", "T", (ONE, NONE, NONE)),))
        rows, contexts = self.judged(form)
        self.assertEqual(rows, ())
        self.assertEqual(sorted(len(steps) for _, steps in contexts[0]), [0, 1, 2])

    def test_only_0_and_1_at_number_fields_are_needed(self):
        kinds = (("T", (("Leaf", ()), ("Two", ("T", "number", "number")))),)
        two = ((0, (1, 0, 0), ONE), (0, (2, 1, 0), ONE), (0, (3, 1, 1), ONE))
        form = (kinds, (4,), ((((0, (), ONE),), two),), (("r", "T", (ONE, NONE, NONE, NONE)),))
        _, contexts = self.judged(form)
        self.assertEqual(len(contexts[0]), 4)
        self.assertTrue(all(entry in (0, 1) for _, steps in contexts[0] for _, _, entries in steps
                            for entry in entries))

    def test_random_forms(self):
        chance = random.Random(82)
        for _ in range(120):
            kinds = reference.random_kinds(chance, 3, 2)
            form = reference.random_form(chance, kinds, 2, 0.4)
            self.judged(form, 4)

    def test_random_forms_in_other_coordinates(self):
        chance = random.Random(83)
        for _ in range(30):
            kinds = reference.random_kinds(chance, 2, 2)
            form = disguised(chance, with_copies(reference.random_form(chance, kinds, 2, 0.4)))
            self.judged(form, 4)

    def test_wide_forms_and_long_contexts(self):
        # A chain of 32 coordinates, each seen by one step more than the one ahead of it.
        zero = tuple((at, (), ONE) for at in range(32))
        step = tuple((at, (at + 1,), ONE) for at in range(31))
        form = (CHAIN, (32,), ((zero, step, ()),), (("r", "Nat", (ONE,) + (NONE,) * 31),))
        self.assertFalse(is_form(form))
        told = seen(form)
        self.assertIs(is_seen(form, told), True)
        self.assertEqual(sorted(len(steps) for _, steps in told[1][0]), list(range(32)))

    def test_too_great(self):
        self.assertEqual(len(seen(full_form(20000))[1][0]), 10)
        raised(TooGreat, seen, full_form(20001))

    def test_wrong_forms(self):
        for thing in NEVER:
            raised(BadForm, seen, thing)
        raised(BadForm, seen, dims_form(33))


class IsSeen(unittest.TestCase):

    def test_whatever_rows_and_contexts_make_all(self):
        rows = (("Leaf", ()), ("Node", (0, 0)), ("Node", (1, 1)))
        for steps in ((("Node", 0, (2,)),), (("Node", 1, (0,)), ("Node", 0, (1,)))):
            self.assertIs(is_seen(S, (rows, (((0, ()), (0, steps)),))), True)
            self.assertIs(is_seen(S, (rows, (((0, steps), (0, ())),))), True)

    def test_contexts_of_which_one_is_made_of_others(self):
        more = (0, (("Node", 0, (0,)),))
        further = (0, (("Node", 0, (1,)),))
        # The covectors are (0, 1), (2, 1) and (4, 1).
        self.assertIs(is_seen(S, (ROWS, (((0, ()), more, further),))), False)
        self.assertIs(is_seen(S, (ROWS, ((more, further),))), True)
        self.assertIs(is_seen(S, (ROWS, (((0, ()), (0, ())),))), False)
        right = (0, (("Node", 1, (0,)),))
        self.assertIs(is_seen(S, (ROWS, ((more, right),))), False)
        nothing = S[:3] + ((("r", "Tree", (NONE, NONE)),),)
        self.assertIs(is_seen(nothing, ((), (((0, ()),),))), False)
        self.assertIs(is_seen(nothing, ((), ((),))), True)

    def test_too_few(self):
        self.assertIs(is_seen(S, (ROWS, (((0, ()),),))), False)
        self.assertIs(is_seen(S, (ROWS, ((),))), False)
        self.assertIs(is_seen(S, (ROWS, ())), False)
        rows, contexts = seen(MIXED_FORM)
        for at, own in enumerate(contexts):
            for place in range(len(own)):
                fewer = own[:place] + own[place + 1:]
                self.assertIs(is_seen(MIXED_FORM, (rows, with_part(contexts, (at,), fewer))), False)

    def test_contexts_of_another_kind(self):
        rows, (lists, items) = seen(MIXED_FORM)
        self.assertIs(is_seen(MIXED_FORM, (rows, (items, lists))), False)
        self.assertIs(is_seen(MIXED_FORM, (rows, (lists, items, ()))), False)
        self.assertIs(is_seen(MIXED_FORM, (rows, (lists, items[:2] + lists[:1]))), False)

    def test_no_rows(self):
        form = (PAIRS, (2,), (((), ()),), (("r", "Tree", (ONE, NONE)), ("s", "Tree", (ONE, ONE))))
        self.assertIs(is_seen(form, ((), (((0, ()), (1, ())),))), True)
        self.assertIs(is_seen(S, ((), (((0, ()), (0, (("Node", 0, (0,)),))),))), False)
        deep = chain_form()
        self.assertIs(is_seen(deep, ((), (((0, ()), (0, next_steps(96))),))), True)
        self.assertIs(is_seen(deep, ((), (((0, ()), (0, next_steps(97))),))), False)

    def test_another_thing_at_each_place(self):
        told = (MIXED_ROWS, (((0, ()), (2, ())),
                             ((1, ()), (0, (("Item", 1, (0, 0)),)), (0, (("Item", 1, (1, 0)),)))))
        self.assertIs(is_seen(MIXED_FORM, told), True)
        for version in spoilt(told):
            self.assertIs(is_seen(MIXED_FORM, version), False)

    def test_any_object(self):
        for thing in NEVER:
            self.assertIs(is_seen(S, thing), False)
            self.assertIs(is_seen(S, (thing, (((0, ()), (0, ())),))), False)
            self.assertIs(is_seen(S, (ROWS, thing)), False)
            self.assertIs(is_seen(S, (ROWS, (thing,))), False)
            self.assertIs(is_seen(S, (ROWS, (((0, ()), thing),))), False)
        told = seen(S)
        self.assertIs(is_seen(S, told + ((),)), False)
        self.assertIs(is_seen(S, list(told)), False)
        self.assertIs(is_seen((BINARY, (2,), (((), ()),), ()), told), False)

    def test_too_great_whatever_the_thing_is(self):
        great = full_form(20001)
        for thing in (None, (), seen(full_form(20000)), ((), ((),) * 5)):
            raised(TooGreat, is_seen, great, thing)
        raised(BadForm, is_seen, None, None)


if __name__ == "__main__":
    unittest.main()
