"""Points [28] and [29]: steps, and which of them are let."""

import random
import unittest

from sameontrees.errors import BadForm, BadLog, NotLet
from sameontrees.forms import is_form
from sameontrees.logs import replayed, stepped
from tests import reference
from tests.common import (CHAIN, LEAVES, MIXED_FORM, NEVER, PAIRS, S, dims_form, full_form,
                          great_form, lone_form, raised, spoilt, with_part)
from tests.disguise import as_matrix, beside, disguised, in_coordinates, random_base, with_copies
from tests.reference import Fraction
from tests.test_least import small_forms
from tests.wide import ring_form

ONE = (1, 1)
NONE = (0, 1)
TWO = (2, 1)
HALF = (1, 2)
UNIT = ((ONE, NONE), (NONE, ONE))
SHEAR = ((ONE, NONE), (TWO, ONE))
BACK = ((ONE, NONE), ((-2, 1), ONE))
# S twice: the coordinates 2 and 3 are as 0 and 1, the read takes half of both.
COPIES = with_copies(S)
TWICE = ("merge", (((2, (ONE, NONE)), (3, (NONE, ONE))),))


def numbers(form, trees):
    """What the reads tell of the trees of their kinds."""
    return [(name, kind, reference.number_of_nested(form, name, tree))
            for name, kind, _ in form[3] for tree in trees[kind][:25]]


class Steps(unittest.TestCase):

    def judged(self, form, step):
        """The form behind the step, whose reads tell what they told."""
        told = stepped(form, step)
        self.assertIs(is_form(told), True)
        trees = reference.all_trees(form[0], 3, (0, 1, -2))
        self.assertEqual(numbers(told, trees), numbers(form, trees))
        self.assertEqual(replayed(form, (step,)), told)
        self.assertEqual(stepped(told, ("back", form, step)), form)
        return told

    def refused(self, form, step):
        error = raised(NotLet, stepped, form, step)
        self.assertEqual(error.index, 0)
        self.assertEqual(raised(NotLet, replayed, form, (step,)).index, 0)


class Bases(Steps):

    def test_by_hand(self):
        told = self.judged(S, ("base", ((SHEAR, BACK),)))
        # The vectors (1, n) become (1, n + 2).
        leaf = ((0, (), ONE), (1, (), (3, 1)))
        node = ((0, (0, 0), ONE), (1, (0, 0), (-1, 1)), (1, (0, 1), ONE), (1, (1, 0), ONE))
        self.assertEqual(told, (PAIRS, (2,), ((leaf, node),), (("size", "Tree", ((-2, 1), ONE)),)))

    def test_nothing_changes(self):
        self.assertEqual(self.judged(S, ("base", ((UNIT, UNIT),))), S)
        self.assertEqual(self.judged(dims_form(0, 0), ("base", (((), ()), ((), ())))), dims_form(0, 0))

    def test_random_bases(self):
        chance = random.Random(121)
        for _ in range(60):
            kinds = reference.random_kinds(chance, 3, 3)
            form = reference.random_form(chance, kinds, 3)
            bases = [random_base(chance, dim) for dim in form[1]]
            step = ("base", tuple((as_matrix(one), as_matrix(back)) for one, back in bases))
            self.assertEqual(self.judged(form, step), in_coordinates(form, bases))

    def test_terms_come_and_go(self):
        form = lone_form(2, ((0, (), ONE), (1, (), ONE)))
        told = self.judged(form, ("base", ((((ONE, (-1, 1)), (NONE, ONE)), ((ONE, ONE), (NONE, ONE))),)))
        self.assertEqual(told[2], ((((0 + 1, (), ONE),),),))

    def test_too_many_terms_are_not_let(self):
        form = great_form(6, 4000)
        self.assertTrue(is_form(form))
        units = tuple(tuple((int(at == place), 1) for place in range(6)) for at in range(6))
        self.assertEqual(stepped(form, ("base", ((units, units),))), form)
        self.refused(form, ("base", ((with_part(units, (5, 0), (-2, 1)), with_part(units, (5, 0), TWO)),)))
        few = great_form(6, 1296)
        self.judged(few, ("base", ((with_part(units, (5, 0), (-2, 1)), with_part(units, (5, 0), TWO)),)))

    def test_one_wrong_entry(self):
        for at in (0, 1):
            for row in (0, 1):
                for place in (0, 1):
                    right = (SHEAR, BACK)[at][row][place]
                    for entry in (NONE, ONE, HALF, (-3, 1)):
                        wrong = ("base", (with_part((SHEAR, BACK), (at, row, place), entry),))
                        if entry != right:
                            self.refused(S, wrong)

    def test_matrices_that_do_not_fit(self):
        for part in ((SHEAR,), (SHEAR, BACK, BACK), ((), ()), (((ONE,),), ((ONE,),)), (SHEAR, ()),
                     (SHEAR[:1], BACK[:1]), (SHEAR + ((NONE, NONE),), BACK + ((NONE, NONE),)),
                     (tuple(row + (NONE,) for row in SHEAR), tuple(row + (NONE,) for row in BACK)),
                     (SHEAR, SHEAR), (((NONE,) * 2,) * 2,) * 2, ((ONE,), (ONE,))):
            self.refused(S, ("base", (part,)))
        for parts in ((), ((SHEAR, BACK),) * 2, (((),) * 2,), (SHEAR, BACK), ((SHEAR, BACK), ())):
            self.refused(S, ("base", parts))
        # An inverse from the right alone.
        self.refused(lone_form(1), ("base", ((((ONE, ONE),), ((ONE,), (NONE,))),)))

    def test_a_matrix_of_each_kind(self):
        three = tuple(tuple((int(at == place), 1) for place in range(3)) for at in range(3))
        self.judged(MIXED_FORM, ("base", ((SHEAR, BACK), (three, three))))
        self.refused(MIXED_FORM, ("base", ((three, three), (SHEAR, BACK))))
        self.refused(MIXED_FORM, ("base", ((SHEAR, BACK), (SHEAR, BACK))))


class Merges(Steps):

    def test_copies(self):
        self.assertEqual(self.judged(COPIES, TWICE), S)
        other = ("merge", (((0, (ONE, NONE)), (1, (NONE, ONE))),))
        self.assertEqual(self.judged(COPIES, other), S)
        mixed = ("merge", (((0, (NONE, ONE)), (3, (ONE, NONE))),))
        self.assertEqual(self.judged(COPIES, mixed)[1], (2,))
        one = self.judged(COPIES, ("merge", (((2, (ONE, NONE, NONE)),),)))
        self.assertEqual(one[1], (3,))

    def test_the_weights_hang_on_the_kept_coordinates_in_order(self):
        first = ("merge", (((0, (NONE, ONE, NONE)),),))
        self.assertEqual(self.judged(COPIES, first)[1], (3,))
        for weights in ((NONE, NONE, ONE), (ONE, NONE, NONE), (NONE, TWO, NONE), (NONE,) * 3):
            self.refused(COPIES, ("merge", (((0, weights),),)))

    def test_none_named(self):
        self.assertEqual(self.judged(S, ("merge", ((),))), S)
        self.assertEqual(self.judged(MIXED_FORM, ("merge", ((), ()))), MIXED_FORM)

    def test_all_named(self):
        # Of this kind there is a coordinate for which no maker has a row.
        empty = dims_form(2, 1)
        told = self.judged(empty, ("merge", (((0, ()), (1, ())), ())))
        self.assertEqual(told[1], (0, 1))
        self.assertEqual(self.judged(empty, ("merge", (((0, ()), (1, ())), ((0, ()),))))[1], (0, 0))
        # Here rows stand over columns of the coordinates that fall away.
        turn = with_part(empty, (2, 0, 1), ((0, (1,), TWO), (1, (0,), ONE)))
        self.assertEqual(self.judged(turn, ("merge", (((0, ()), (1, ())), ())))[2][0], ((), ()))
        self.refused(with_part(turn, (2, 0, 0), ((0, (), ONE),)), ("merge", (((0, ()), (1, ())), ())))
        self.refused(S, ("merge", (((0, ()), (1, ())),)))

    def test_one_wrong_ratio(self):
        # Coordinate 1 is three times 0, and 2 is their sum.
        kinds = CHAIN
        rows = [ONE, (3, 1), (4, 1)]

        def terms(*heads):
            return tuple((at, cols, reference.ratio(Fraction(*weight) * Fraction(*ratio)))
                         for at, weight in enumerate(rows) for cols, ratio in heads)

        maps = ((terms(((), ONE)), terms(((0,), HALF), ((2,), ONE)),
                 terms(((0, 1), ONE), ((1, 0), (5, 1)))),)
        form = (kinds, (3,), maps, (("r", "Nat", (ONE, TWO, HALF)),))
        self.assertTrue(is_form(form))
        step = ("merge", (((1, ((3, 1),)), (2, ((4, 1),))),))
        told = self.judged(form, step)
        self.assertEqual(told[3], (("r", "Nat", ((9, 1),)),))
        self.assertEqual(told[2][0][1], ((0, (0,), (9, 2)),))
        # Also by weights of coordinates one of which is kept alone.
        self.judged(form, ("merge", (((1, ((3, 1), NONE)),),)))
        self.judged(form, ("merge", (((2, (ONE, ONE)),),)))
        for place, at in ((0, 0), (0, 1), (0, 2), (1, 0), (1, 3), (1, 5), (2, 0), (2, 3), (2, 5)):
            wrong = with_part(form, (2, 0, place, at, 2), (7, 1))
            self.refused(wrong, step)
            fewer = form[2][0][place][:at] + form[2][0][place][at + 1:]
            self.refused(with_part(form, (2, 0, place), fewer), step)
        for weight in (NONE, ONE, (-3, 1), (3, 2)):
            self.refused(form, ("merge", (((1, (weight,)), (2, ((4, 1),))),)))

    def test_columns_are_exchanged_ahead_of_the_judgment(self):
        # The rows of 0 and 1 have other columns, which tell the same.
        zero = tuple((at, (), ONE) for at in range(2))
        form = (CHAIN, (2,), ((zero, ((0, (0,), TWO), (1, (0,), ONE), (1, (1,), ONE)), ()),),
                (("r", "Nat", (ONE, TWO)),))
        told = self.judged(form, ("merge", (((1, (ONE,)),),)))
        self.assertEqual(told, (CHAIN, (1,), ((((0, (), ONE),), ((0, (0,), TWO),), ()),),
                                (("r", "Nat", ((3, 1),)),)))
        self.judged(form, ("merge", (((0, (ONE,)),),)))

    def test_number_fields_keep_their_columns(self):
        mark = ((0, (0, 0), ONE), (0, (1, 0), TWO), (1, (0, 1), ONE), (1, (1, 1), TWO))
        form = (CHAIN, (2,), ((((0, (), ONE), (1, (), ONE)), (), mark),), (("r", "Nat", (ONE, NONE)),))
        told = self.judged(form, ("merge", (((1, (ONE,)),),)))
        self.assertEqual(told[2][0][2], ((0, (0, 0), ONE), (0, (1, 0), TWO)))
        self.refused(with_part(form, (2, 0, 2, 3, 2), (3, 1)), ("merge", (((1, (ONE,)),),)))

    def test_things_that_are_no_merges(self):
        good = ((2, (ONE, NONE)), (3, (NONE, ONE)))
        for part in (good[::-1], good[:1] * 2, ((2, (ONE, NONE)),), ((2, (ONE, NONE, NONE, NONE)),),
                     ((4, (ONE, NONE, NONE)),), ((-1, (ONE, NONE, NONE)),), (2, (ONE, NONE, NONE)),
                     ((2, (ONE, NONE, NONE), ()),), ((2,),), ((True, (ONE, NONE, NONE)),),
                     tuple((at, ()) for at in range(5)), ((2, ((2, 2), NONE, NONE)),), [], None,
                     tuple((at, (ONE,) * 3) for at in range(5)), good + ((3, (NONE, ONE)),)):
            self.refused(COPIES, ("merge", (part,)))
        for parts in ((), (good, ()), (good, good), good, [good], None):
            self.refused(COPIES, ("merge", parts))

    def test_too_many_terms_are_not_let(self):
        # Nine equal coordinates: each column is exchanged by the sum of parts of it.
        kinds = (("T", (("Leaf", ()),)), ("U", (("Many", ("T",) * 4),)))
        leaf = tuple((at, (), ONE) for at in range(9))
        one = (kinds, (9, 1), ((leaf,), (((0, (0, 0, 0, 0), ONE),),)), ())
        merge = ("merge", (((0, (HALF, HALF) + (NONE,) * 6),), ()))
        self.assertEqual(len(self.judged(one, merge)[2][1][0]), 16)
        eighth = ("merge", (((0, ((1, 8),) * 8),), ()))
        self.refused(one, eighth)


class Unseens(Steps):

    def test_a_coordinate_that_nothing_uses(self):
        one = LEAVES[:3] + ((("size", "Tree", (ONE, NONE)),),)
        told = self.judged(one, ("unseen", ((1,),)))
        self.assertEqual(told, (PAIRS, (1,), ((((0, (), ONE),), ((0, (0, 0), ONE),)),),
                                (("size", "Tree", (ONE,)),)))
        self.refused(one, ("unseen", ((0,),)))
        self.refused(one, ("unseen", ((0, 1),)))
        self.refused(LEAVES, ("unseen", ((1,),)))

    def test_it_may_use_what_stays_and_itself(self):
        chance = random.Random(122)
        for form, _ in small_forms(123, 25, 2):
            more = beside(form, reference.random_form(chance, form[0], 2))
            parts = tuple(tuple(range(dim, wide)) for dim, wide in zip(form[1], more[1]))
            self.assertEqual(self.judged(more, ("unseen", parts)), form)
        uses = with_part(LEAVES, (3, 0, 2), (ONE, NONE))
        self.assertEqual(uses[2][0][1][1][:2], (1, (0, 1)))
        self.judged(uses, ("unseen", ((1,),)))

    def test_none_and_all_named(self):
        self.assertEqual(self.judged(S, ("unseen", ((),))), S)
        unread = S[:3] + ((),)
        told = self.judged(unread, ("unseen", ((0, 1),)))
        self.assertEqual(told, (PAIRS, (0,), (((), ()),), ()))

    def test_a_column_is_one_of_its_own_fields_kind(self):
        # Coordinate 1 of Item is used at no field of the kind Item; 1 stands at others.
        kinds = (("T", (("Leaf", ()), ("Two", ("number", "U", "T")))), ("U", (("Dot", ()),)))
        two = ((0, (0, 0, 1), ONE), (0, (1, 0, 1), ONE), (1, (1, 0, 0), ONE))
        form = (kinds, (2, 2), ((((0, (), ONE), (1, (), ONE)), two), (((0, (), ONE), (1, (), ONE)),)),
                (("r", "T", (ONE, ONE)), ("s", "U", (ONE, NONE))))
        told = self.judged(form, ("unseen", ((), (1,))))
        self.assertEqual(told[2], (form[2][0], (((0, (), ONE),),)))
        self.refused(form, ("unseen", ((1,), ())))
        self.refused(form, ("unseen", ((), (0,))))
        used = with_part(form, (2, 0, 1), two + ((1, (1, 1, 0), ONE),))
        self.refused(used, ("unseen", ((), (1,))))
        read = with_part(form, (3, 1, 2, 1), HALF)
        self.refused(read, ("unseen", ((), (1,))))

    def test_things_that_are_no_coordinates(self):
        unread = with_part(COPIES, (3,), ())
        self.judged(unread, ("unseen", ((2, 3),)))
        for part in ((3, 2), (2, 2), (4,), (-1,), (2, 3, 4), (True,), ((2,),), [2], None, 2, ("2",)):
            self.refused(unread, ("unseen", (part,)))
        for parts in ((), ((2,), ()), (2, 3), [(2, 3)], None):
            self.refused(unread, ("unseen", parts))


class Backs(Steps):

    def test_back_of_each_step(self):
        unread = with_part(COPIES, (3,), ())
        for form, step in ((S, ("base", ((SHEAR, BACK),))), (COPIES, TWICE),
                           (unread, ("unseen", ((2, 3),))), (unread, ("unseen", ((0, 1, 2, 3),)))):
            told = self.judged(form, step)
            self.assertEqual(stepped(told, ("back", form, step)), form)

    def test_the_step_comes_to_just_this_form(self):
        step = ("back", COPIES, TWICE)
        self.assertEqual(stepped(S, step), COPIES)
        for other in (LEAVES, COPIES, S[:3] + ((("size", "Tree", (NONE, TWO)),),), S[:3] + ((),),
                      S[:3] + ((("sizes", "Tree", (NONE, ONE)),),), dims_form(2), MIXED_FORM):
            self.refused(other, step)

    def test_the_step_is_let_on_its_form(self):
        wrong = ("merge", (((2, (ONE, NONE)), (3, (NONE, TWO))),))
        self.refused(S, ("back", COPIES, wrong))
        self.refused(S, ("back", S, TWICE))
        self.refused(S, ("back", COPIES, ("unseen", ((2, 3),))))

    def test_a_back_in_a_back(self):
        back = ("back", COPIES, TWICE)
        self.assertEqual(stepped(S, back), COPIES)
        self.refused(COPIES, ("back", S, back))
        self.assertEqual(stepped(COPIES, TWICE), S)

    def test_any_object_in_a_back(self):
        for thing in NEVER:
            self.refused(S, ("back", thing, TWICE))
            self.refused(S, ("back", COPIES, thing))
            self.refused(S, ("back", COPIES, (thing, TWICE[1])))
            self.refused(S, ("back", COPIES, ("merge", thing)))
            self.refused(S, ("back", COPIES, ("merge", (thing,))))
        self.refused(S, ("back", COPIES))
        self.refused(S, ("back", COPIES, TWICE, ()))
        self.refused(S, ("back",))
        for version in spoilt(("back", COPIES, TWICE)):
            self.refused(S, version)

    def test_the_form_of_a_back_is_a_form(self):
        # The wide form would come to S, too.
        wide = beside(S, (PAIRS, (15,), (((), ()),), ()))
        self.assertFalse(is_form(wide))
        self.refused(S, ("back", wide, ("unseen", (tuple(range(2, 17)),))))
        less = beside(S, (PAIRS, (14,), (((), ()),), ()))
        self.assertEqual(stepped(S, ("back", less, ("unseen", (tuple(range(2, 16)),)))), less)


class AnyObject(Steps):

    def test_things_that_are_no_steps(self):
        for thing in NEVER:
            self.refused(S, thing)
            self.refused(S, (thing,))
            self.refused(S, (thing, ((),)))
            for word in ("base", "merge", "unseen"):
                # What names no coordinate is a step.
                if repr(thing) not in ("()", "((),)"):
                    self.refused(S, (word, thing))
                    self.refused(S, (word, (thing,)))
        for step in (("merge",), ("merge", ((),), ()), ["merge", ((),)], ("merges", ((),)),
                     ("", ((),)), ("unseen", ((),), ()), ("base", ((UNIT, UNIT),), ()), "merge"):
            self.refused(S, step)

    def test_another_thing_at_each_place(self):
        unread = with_part(COPIES, (3,), ())
        for form, step in ((S, ("base", ((SHEAR, BACK),))), (COPIES, TWICE),
                           (unread, ("unseen", ((2, 3),)))):
            for version in spoilt(step):
                self.refused(form, version)

    def test_wrong_forms(self):
        for thing in NEVER:
            raised(BadForm, stepped, thing, TWICE)
            raised(BadForm, replayed, thing, None)
        raised(BadForm, stepped, dims_form(17), ("merge", ((),)))


class Logs(unittest.TestCase):

    def test_one_step_behind_another(self):
        there = ("base", ((SHEAR, BACK),))
        back = ("base", ((BACK, SHEAR),))
        self.assertEqual(replayed(S, (there, back)), S)
        self.assertEqual(replayed(S, (there,) * 3),
                         stepped(stepped(stepped(S, there), there), there))
        self.assertEqual(replayed(COPIES, (TWICE, there, back, ("back", COPIES, TWICE))), COPIES)

    def test_none_sixty_and_sixty_one(self):
        step = ("base", ((SHEAR, BACK),))
        self.assertEqual(replayed(S, ()), S)
        told = S
        for _ in range(60):
            told = stepped(told, step)
        self.assertEqual(replayed(S, (step,) * 60), told)
        raised(BadLog, replayed, S, (step,) * 61)
        raised(BadLog, replayed, S, (None,) * 61)
        self.assertEqual(raised(NotLet, replayed, S, (step,) * 59 + (None,)).index, 59)

    def test_the_first_that_is_not_let(self):
        for index in range(5):
            log = (("merge", ((),)),) * index + (TWICE, None)
            self.assertEqual(raised(NotLet, replayed, S, log).index, index)
        self.assertEqual(raised(NotLet, replayed, COPIES, (TWICE, TWICE)).index, 1)
        self.assertEqual(raised(NotLet, replayed, COPIES, (TWICE, None, None)).index, 1)

    def test_things_that_are_no_logs(self):
        for thing in NEVER:
            if type(thing) is not tuple:
                raised(BadLog, replayed, S, thing)
            elif thing:
                self.assertEqual(raised(NotLet, replayed, S, thing).index, 0)
        raised(BadLog, replayed, S, [TWICE])
        raised(BadLog, replayed, S, {0: TWICE})

    def test_too_great_is_not_raised(self):
        self.assertEqual(raised(NotLet, stepped, full_form(20001), TWICE).index, 0)
        nothing = ("merge", ((),) * len(full_form(20001)[0]))
        self.assertEqual(stepped(full_form(20001), nothing), full_form(20001))

    def test_reads_tell_the_same_ahead_and_behind(self):
        chance = random.Random(124)
        form = ring_form(6)
        trees = reference.all_trees(form[0], 9, ())
        for _ in range(5):
            other = disguised(chance, form)
            self.assertEqual(numbers(other, trees), numbers(form, trees))


if __name__ == "__main__":
    unittest.main()
