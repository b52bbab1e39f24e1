"""Point [20]: closings, and what is judged to be one."""

import random
import unittest

from sameontrees.errors import BadForm, TooGreat
from sameontrees.reached import closing, is_closing, reached
from tests import reference
from tests.common import (MIXED_FORM, NEVER, S, dims_form, full_form, lone_form, raised, spoilt,
                          with_part)

ONE = (1, 1)
LEAF = ("Leaf", ())
NODE = ("Node", (0, 0))


def closed(form, rows, basis):
    """The closing over these rows and this basis."""
    return (rows, basis, reference.sums_over(form, rows, basis))


def each_changed(thing, path=()):
    """Paths to all integers in the thing."""
    if isinstance(thing, int):
        yield path
    elif isinstance(thing, tuple):
        for at, part in enumerate(thing):
            yield from each_changed(part, path + (at,))


def at_path(thing, path):
    """The part of the thing at the path."""
    for at in path:
        thing = thing[at]
    return thing


class Closings(unittest.TestCase):

    def judged(self, form):
        """The closing of the form, which is as all closings are."""
        told = closing(form)
        rows, basis, sums = told
        self.assertEqual((rows, basis), reached(form))
        self.assertEqual(sums, reference.sums_over(form, rows, basis))
        self.assertIs(is_closing(form, told), True)
        return told

    def test_the_example(self):
        self.assertEqual(self.judged(S), (
            (LEAF, NODE), ((0, 1),),
            (((((1, 1), (0, 1)),),
              (((0, 1), (1, 1)), ((-1, 1), (2, 1)), ((-1, 1), (2, 1)), ((-2, 1), (3, 1)))),)))

    def test_two_kinds_and_number_fields(self):
        rows, basis, sums = self.judged(MIXED_FORM)
        self.assertEqual([[len(own) for own in of_kind] for of_kind in sums],
                         [[1, 2 * len(basis[0]) * len(basis[1])],
                          [2, len(basis[1]) ** 2, len(basis[0])]])

    def test_choices_ascend(self):
        # Over the choices (0, 0), (0, 1), (1, 0), (1, 1), each of which makes an own tree.
        kinds = (("N", (("Two", ("number", "number")),)),)
        terms = ((0, (0, 0), ONE), (1, (0, 1), ONE), (2, (1, 0), ONE), (3, (1, 1), ONE))
        form = (kinds, (4,), ((terms,),), ())
        _, _, (((*weights,),),) = self.judged(form)
        units = [tuple((int(one == other), 1) for other in range(4)) for one in range(4)]
        self.assertEqual(weights, units)

    def test_no_basis_trees(self):
        alone = (("T", (("Next", ("T",)), ("Two", ("T", "number", "T")))),)
        self.assertEqual(self.judged((alone, (2,), (((), ()),), ())), ((), ((),), (((), ()),)))
        self.assertEqual(self.judged(lone_form(0)), ((), ((),), ((((),),),)))
        self.assertEqual(self.judged(lone_form(2)), ((), ((),), ((((),),),)))
        number = (("N", (("One", ("number",)), ("Two", ("number", "number")))),)
        self.assertEqual(self.judged((number, (1,), (((), ()),), ())),
                         ((), ((),), ((((),) * 2, ((),) * 4),)))

    def test_random_forms(self):
        chance = random.Random(61)
        several = 0
        for _ in range(150):
            kinds = reference.random_kinds(chance)
            form = reference.random_form(chance, kinds, 3, chance.choice((0.2, 0.4, 0.7)))
            several += len(self.judged(form)[0]) > 2
        self.assertGreater(several, 30)

    def test_wide_forms(self):
        kinds = (("T", (LEAF, ("Next", ("T",)))), ("U", (("Zero", ()), ("Up", ("U",)))))
        steps = tuple((at + 1, (at,), (at + 1, at + 2)) for at in range(31))
        maps = (((0, (), (3, 7)),), steps)
        form = (kinds, (32, 32), (maps, maps), ())
        rows, basis, sums = self.judged(form)
        self.assertEqual(len(rows), 64)

    def test_20000_makers_over_basis_trees(self):
        form = full_form(20000)
        told = closing(form)
        self.assertEqual(sum(len(own) for of_kind in told[2] for own in of_kind), 20000)
        self.assertIs(is_closing(form, told), True)
        raised(TooGreat, closing, full_form(20001))

    def test_wrong_forms(self):
        for thing in (*NEVER, *spoilt(S), dims_form(33), dims_form(32, 32, 1), S[:3]):
            raised(BadForm, closing, thing)
            raised(BadForm, is_closing, thing, None)


class Judged(unittest.TestCase):

    def test_other_basis_trees_in_another_sequence(self):
        great = ("Node", (1, 1))
        for rows, basis in (((LEAF, NODE), ((1, 0),)), ((LEAF, NODE, great), ((2, 0),)),
                            ((LEAF, NODE, great), ((1, 2),)), ((LEAF, NODE, great), ((0, 1),)),
                            ((LEAF, NODE, NODE, LEAF), ((2, 3),)),
                            ((LEAF, LEAF, ("Node", (1, 0)), ("Node", (2, 2))), ((3, 2),))):
            self.assertIs(is_closing(S, closed(S, rows, basis)), True)

    def test_any_integers(self):
        rows = (("One", (-7,)), ("One", (10 ** 30,)), ("Pair", (0, 0)), ("End", ()),
                ("Item", (3, 0, 3)))
        for basis in (((3, 4), (0, 1, 2)), ((4, 3), (2, 0, 1))):
            thing = closed(MIXED_FORM, rows, basis)
            self.assertIsNotNone(thing[2])
            self.assertIs(is_closing(MIXED_FORM, thing), True)

    def test_random_closings(self):
        chance = random.Random(62)
        told = 0
        for _ in range(150):
            kinds = reference.random_kinds(chance)
            form = reference.random_form(chance, kinds, 3, 0.4)
            rows, basis, _ = closing(form)
            turned = tuple(tuple(chance.sample(own, len(own))) for own in basis)
            self.assertIs(is_closing(form, closed(form, rows, turned)), True)
            told += turned != basis
            for at, own in enumerate(basis):
                for entry in range(len(own)):
                    fewer = with_part(basis, (at,), own[:entry] + own[entry + 1:])
                    sums = reference.sums_over(form, rows, fewer)
                    self.assertIs(is_closing(form, (rows, fewer, sums)), sums is not None)
                    self.assertIs(is_closing(form, (rows, fewer, closing(form)[2])), False)
        self.assertGreater(told, 30)

    def test_one_integer_that_is_wrong(self):
        for form, thing in ((S, closing(S)), (MIXED_FORM, closing(MIXED_FORM)),
                            (S, closed(S, (LEAF, NODE, ("Node", (1, 1))), ((2, 0),)))):
            for path in each_changed(thing):
                for step in (1, -1):
                    wrong = with_part(thing, path, at_path(thing, path) + step)
                    right = closed(form, *wrong[:2]) if self.is_sound(form, wrong) else None
                    self.assertIs(is_closing(form, wrong), right is not None and wrong == right)

    def is_sound(self, form, thing):
        """Whether rows and basis of a changed closing may be asked by the reference."""
        rows, basis, _ = thing
        makers = reference.makers_in(form[0])
        for at, (maker, entries) in enumerate(rows):
            for field, entry in zip(makers[maker][2], entries):
                if field != "number" and not (
                        0 <= entry < at and form[0][makers[rows[entry][0]][0]][0] == field):
                    return False
        for (name, _), own in zip(form[0], basis):
            if len(set(own)) < len(own):
                return False
            for entry in own:
                if not 0 <= entry < len(rows) or form[0][makers[rows[entry][0]][0]][0] != name:
                    return False
        return True

    def test_indexes_and_rows_that_are_wrong(self):
        rows, basis, sums = closing(S)
        for wrong in (((0,),), ((1,),), ((0, 0),), ((0, 1, 1),), ((0, 2),), ((-1, 0),), ((-2, -1),),
                      (), ((),), ((0, 1), ()), (0, 1), ((0, True),), ((False, 1),), [(0, 1)],
                      ([0, 1],), (None,), None):
            self.assertIs(is_closing(S, (rows, wrong, sums)), False)
        for wrong in ((), rows[:1], rows[1:], rows[::-1], (LEAF, LEAF), (LEAF, ("Node", (0, 1))),
                      list(rows), None, (LEAF, None), ((LEAF,), NODE), (LEAF,) * 97):
            self.assertIs(is_closing(S, (wrong, basis, sums)), False)

    def test_vectors_that_are_made_of_one_another(self):
        # Both rows have the vector (1, 1), and there is a row with the vector 0.
        rows = (LEAF, LEAF, NODE)
        for basis in (((0, 1),), ((0, 1, 2),), ((0, 0, 2),)):
            for many in (2, 3):
                sums = ((((ONE,) + ((0, 1),) * (many - 1),), (((0, 1),) * many,) * many ** 2),)
                self.assertIs(is_closing(S, (rows, basis, sums)), False)
        zeros = with_part(S, (2, 0, 0), ())
        self.assertIs(is_closing(zeros, ((), ((),), ((((),), ()),))), True)
        self.assertIs(is_closing(zeros, ((LEAF,), ((),), ((((),), ()),))), True)
        self.assertIs(is_closing(zeros, ((LEAF,), ((0,),), ((((ONE),),), ((ONE,),)))), False)
        self.assertIs(is_closing(zeros, ((LEAF,), ((0,),), (((((0, 1),),), (((0, 1),),)),))), False)

    def test_vectors_that_do_not_make_what_they_should(self):
        # Over Leaf alone each weight fails, since Node's vector is not made of Leaf's.
        for weight in ((0, 1), (1, 1), (2, 1)):
            sums = ((((ONE,),), ((weight,),)),)
            self.assertIs(is_closing(S, ((LEAF,), ((0,),), sums)), False)
        self.assertIs(is_closing(S, ((), ((),), ((((),), ()),))), False)

    def test_weights_that_are_no_ratios_in_lowest_terms(self):
        thing = closing(S)
        for path, part in (((2, 0, 0, 0, 0), (2, 2)), ((2, 0, 0, 0, 1), (0, 2)),
                           ((2, 0, 0, 0, 1), (0, -1)), ((2, 0, 0, 0, 0), (-1, -1)),
                           ((2, 0, 0, 0, 0), (True, 1)), ((2, 0, 0, 0, 0), (1, True)),
                           ((2, 0, 0, 0, 1), (False, 1)), ((2, 0, 0, 0, 0), 1),
                           ((2, 0, 0, 0, 0), [1, 1]), ((2, 0, 0, 0), [ONE, (0, 1)]),
                           ((2, 0, 0, 0), (ONE,)), ((2, 0, 0, 0), (ONE, (0, 1), (0, 1))),
                           ((2, 0, 0), ()), ((2, 0, 1), ()), ((2, 0), ()), ((2,), ())):
            self.assertIs(is_closing(S, with_part(thing, path, part)), False)
        sums = thing[2][0]
        for part in ((sums[0] * 2, sums[1]), (sums[0], sums[1][:3]), (sums[0], sums[1] + sums[1][:1]),
                     (sums[0], sums[1][::-1]), sums[:1], sums * 2, sums[::-1]):
            self.assertIs(is_closing(S, with_part(thing, (2, 0), part)), False)

    def test_any_object(self):
        for form in (S, MIXED_FORM, lone_form(0)):
            thing = closing(form)
            self.assertIs(is_closing(form, thing), True)
            for other in (*NEVER, *spoilt(thing), thing[:2], thing + ((),), thing[::-1], (thing,),
                          ("same", *thing)):
                self.assertIs(is_closing(form, other), False)

    def test_more_makers_over_basis_trees_than_reached_lets(self):
        # One more maker, of a kind without coordinates, has just one sum more.
        rows, basis, sums = closing(full_form(20000))
        form = full_form(20001)
        raised(TooGreat, reached, form)
        more = sums[:-1] + (sums[-1] + (((),),),)
        self.assertIs(is_closing(form, (rows, basis, more)), True)
        self.assertIs(is_closing(form, (rows, basis, sums)), False)
        self.assertIs(is_closing(form, (rows, basis[::-1], more)), False)

    def test_a_form_with_very_many_choices(self):
        # 32 ** 4 sums would be needed over as many basis trees.
        kinds = (("T", (LEAF, ("Next", ("T",)), ("Quad", ("T",) * 4))),)
        steps = tuple((at + 1, (at,), ONE) for at in range(31))
        form = (kinds, (32,), ((((0, (), ONE),), steps, ()),), ())
        rows = (LEAF,) + tuple(("Next", (at,)) for at in range(31))
        self.assertIs(is_closing(form, (rows, (tuple(range(32)),), (((), (), ()),))), False)
        self.assertIs(is_closing(form, (rows, (tuple(range(12)),), None)), False)


if __name__ == "__main__":
    unittest.main()
