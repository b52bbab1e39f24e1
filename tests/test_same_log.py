"""Points [3] and [33]: logs between forms that tell the same."""

import random
import unittest

from sameontrees.equal import same, same_log
from sameontrees.errors import BadForm, NotSame, TooGreat, Unlike
from sameontrees.forms import formed, is_form
from sameontrees.least import least
from sameontrees.logs import replayed, stepped
from sameontrees.programs import read_program
from tests import reference
from tests.common import (LEAVES, MIXED_FORM, NEVER, S, dims_form, full_form, is_plain, raised,
                          with_part)
from tests.disguise import (as_matrix, beside, disguised, easy_base, in_coordinates, random_base,
                            with_copies, with_zeros)
from tests.test_least import small_forms
from tests.test_same import SIZES
from tests.test_steps import numbers
from tests.wide import products_form, ring_form

ONE = (1, 1)
NONE = (0, 1)


def dense_form(dim):
    """A form with as many terms of a maker with two fields as may be: the dim three times."""
    kinds, _, ((zero, turn),), reads = ring_form(dim)
    more = ((kinds[0][0], kinds[0][1] + (("Pair", ("Nat", "Nat")),)),)
    pair = tuple((row, (one, other), ((row + one * 3 + other * 5) % 7 + 1, 1))
                 for row in range(dim) for one in range(dim) for other in range(dim))
    return (more, (dim,), ((zero, turn, pair),), reads)


class SameLog(unittest.TestCase):

    def judged(self, one, other):
        """The log, each step of which is let and keeps what reads tell."""
        log = same_log(one, other)
        self.assertTrue(is_plain(log))
        self.assertLessEqual(len(log), 60)
        self.assertEqual(replayed(one, log), other)
        trees = reference.all_trees(one[0], 2, (0, 1, -2))
        form = one
        for step in log:
            form = stepped(form, step)
            self.assertIs(is_form(form), True)
            self.assertEqual(numbers(form, trees), numbers(one, trees))
        self.assertEqual(form, other)
        self.assertEqual(log == (), one == other)
        return log

    def test_the_example(self):
        self.judged(S, SIZES)
        self.judged(SIZES, S)
        self.judged(S, least(S))
        self.judged(least(S), S)

    def test_equal_forms(self):
        for form in (S, MIXED_FORM, dims_form(1, 2), with_copies(S), ring_form(16)):
            self.assertEqual(self.judged(form, form), ())

    def test_random_forms(self):
        chance = random.Random(141)
        for form, _ in small_forms(142, 60, 2):
            forms = [form, disguised(chance, form), with_copies(form),
                     disguised(chance, with_copies(form)), with_zeros(form, (1,) * len(form[0])),
                     beside(form, reference.random_form(chance, form[0], 2)), least(form),
                     disguised(chance, beside(form, reference.random_form(chance, form[0], 2)))]
            one, other, third = chance.sample(forms, 3)
            self.judged(one, other)
            self.judged(other, third)

    def test_two_kinds_and_number_fields(self):
        chance = random.Random(143)
        other = disguised(chance, with_copies(MIXED_FORM), easy_base)
        self.judged(MIXED_FORM, other)
        self.judged(other, MIXED_FORM)
        self.judged(with_zeros(MIXED_FORM, (2, 1)), other)

    def test_kinds_without_trees(self):
        alone = (("T", (("Leaf", ()), ("Into", ("U", "T")))), ("U", (("Next", ("U", "number")),)))
        leaf = ((0, (), ONE),)
        one = (alone, (1, 1), ((leaf, ((0, (0, 0), ONE),)), (((0, (0, 1), ONE),),)),
               (("r", "T", (ONE,)), ("s", "U", ((5, 1),))))
        other = (alone, (1, 0), ((leaf, ()), ((),)), (("r", "T", (ONE,)), ("s", "U", ())))
        self.judged(one, other)
        self.judged(other, one)

    def test_no_reads(self):
        self.judged(S[:3] + ((),), LEAVES[:3] + ((),))
        self.judged(dims_form(3, 1), dims_form(0, 4))

    def test_many_coordinates(self):
        chance = random.Random(144)
        ring = ring_form(16)
        self.judged(ring, disguised(chance, ring))
        eight = ring_form(8)
        self.judged(disguised(chance, with_copies(eight)), disguised(chance, eight))

    def test_as_many_terms_as_may_be_on_the_way(self):
        # Fifteen coordinates three times are at most 4,000, in both forms.
        chance = random.Random(145)
        form = dense_form(15)
        self.assertEqual(len(form[2][0][2]), 15 ** 3)
        matrix, inverse = random_base(chance, 15)
        other = stepped(form, ("base", ((as_matrix(matrix), as_matrix(inverse)),)))
        log = same_log(other, form)
        self.assertEqual(replayed(other, log), form)
        self.assertEqual(replayed(form, same_log(form, other)), other)

    def test_programs(self):
        text = "kind Tree { Leaf() Node(Tree, number, Tree) } "
        leaf = "{ Leaf() = 0; Node(l, n, r) = "
        one = formed(read_program(text + f"fun sum(Tree) {leaf} (sum(l) + n + sum(r)); }}"))
        other = formed(read_program(
            text + f"fun sum(Tree) {leaf} ((1/2 * n) + n + sum(r) + (-1/2 * n) + sum(l)); }}"))
        self.assertEqual(self.judged(one, other), ())
        third = formed(read_program(
            text + f"fun sum(Tree) {leaf} (twice(l) + n + sum(r) + (-1 * half(l))); }}"
            f"fun twice(Tree) {leaf} (twice(l) + (2 * n) + twice(r)); }}"
            f"fun half(Tree) {leaf} (half(l) + n + half(r)); }}"))
        self.assertEqual(self.judged(one, third[:3] + (third[3][:1],))[-1][0], "back")


class Parted(unittest.TestCase):

    def test_not_same(self):
        for one, other in ((S, LEAVES), (LEAVES, S), (with_copies(S), LEAVES),
                           (MIXED_FORM, with_part(MIXED_FORM, (3, 2, 2, 0), ONE)),
                           (ring_form(7), ring_form(11))):
            error = raised(NotSame, same_log, one, other)
            self.assertEqual(error.part, same(one, other))
            self.assertEqual((len(error.part), error.part[0]), (5, "part"))

    def test_errors_in_their_order(self):
        for thing in NEVER:
            raised(BadForm, same_log, thing, S)
            raised(BadForm, same_log, S, thing)
        raised(BadForm, same_log, dims_form(17), dims_form(17))
        raised(BadForm, same_log, S, dims_form(17))
        raised(Unlike, same_log, S, S[:3] + ((),))
        raised(Unlike, same_log, S, MIXED_FORM)

    def test_too_great(self):
        great = full_form(20001)
        raised(TooGreat, same_log, great, great)
        reads = (("last", "T", (ONE,) + (NONE,) * 9),)
        raised(TooGreat, same_log, great, great[:3] + (reads,))
        other = full_form(20000)[:3] + (reads,)
        raised(NotSame, same_log, full_form(20000), other)

    def test_forms_on_the_way_that_are_too_great(self):
        chance = random.Random(146)
        fields = ("A", "B", "B", "C")
        form = products_form((8, 10, 5), fields)
        # Dims multiplied are 8,000 here; the least form has 4,000 terms.
        log = same_log(form, least(form))
        self.assertEqual(replayed(form, log), least(form))
        more = products_form((8, 10, 5), fields, True)
        other = in_coordinates(more, [easy_base(chance, dim) for dim in more[1]])
        self.assertTrue(is_form(other))
        raised(TooGreat, same_log, more, other)
        self.assertEqual(same_log(more, more), ())
        self.assertEqual(same(more, other)[0], "same")

    def test_unread_forms_may_have_many_terms(self):
        # All falls away, so that no form on the way has more terms than these.
        one = products_form((8, 10, 5), ("A", "B", "B", "C"), True)
        one = one[:3] + ((),)
        nothing = least(one)
        self.assertEqual(nothing[1], (0, 0, 0, 0))
        self.assertEqual(replayed(one, same_log(one, nothing)), nothing)


if __name__ == "__main__":
    unittest.main()
