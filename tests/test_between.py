"""Point [27]: what leads between forms that have the dims of their least forms."""

import random
import unittest

from sameontrees.equal import same
from sameontrees.errors import BadForm, NotLeast, NotSame, TooGreat, Unlike
from sameontrees.forms import is_form
from sameontrees.least import between, is_between, least
from sameontrees.matrices import inverse
from tests import reference
from tests.common import LEAVES, NEVER, PAIRS, S, dims_form, full_form, raised, spoilt, with_part
from tests.disguise import as_matrix, disguised, easy_base, in_coordinates, random_base, with_copies
from tests.reference import as_fractions, ratio
from tests.test_least import LEAST_S, small_forms
from tests.wide import products_form, ring_form

ONE = (1, 1)
NONE = (0, 1)
# The vectors (1, 1) and (1, 3) become (1, 0) and (0, 1).
TO_LEAST = ((((3, 2), (-1, 2)), ((-1, 2), (1, 2))),)


class Between(unittest.TestCase):

    def judged(self, one, other, most=3):
        """The matrices, held against the vectors of trees of both forms."""
        told = between(one, other)
        self.assertIs(is_between(one, other, told), True)
        for (kind, trees), matrix, dim in zip(
                reference.all_trees(one[0], most, (0, 1, -2)).items(), told, one[1]):
            self.assertEqual((len(matrix), kind), (dim, kind))
            inverse(matrix)
            for tree in trees[:30]:
                vector = reference.vector_of_nested(one, tree)
                self.assertEqual([reference.product_with(as_fractions(row), vector) for row in matrix],
                                 reference.vector_of_nested(other, tree))
        return told

    def test_the_example(self):
        self.assertEqual(self.judged(S, LEAST_S), TO_LEAST)
        self.assertEqual(self.judged(LEAST_S, S), (((ONE, ONE), (ONE, (3, 1))),))
        self.assertEqual(self.judged(S, S), (((ONE, NONE), (NONE, ONE)),))

    def test_random_forms(self):
        chance = random.Random(111)
        for form, _ in small_forms(112, 60):
            one = least(form)
            other = disguised(chance, one)
            third = disguised(chance, one)
            self.judged(one, other)
            self.judged(other, one)
            self.judged(other, third)

    def test_there_is_just_one(self):
        chance = random.Random(113)
        for form, _ in small_forms(114, 30):
            one = least(form)
            bases = [random_base(chance, dim) for dim in one[1]]
            other = in_coordinates(one, bases)
            self.assertEqual(between(one, other), tuple(as_matrix(matrix) for matrix, _ in bases))
            self.assertEqual(between(other, one), tuple(as_matrix(back) for _, back in bases))

    def test_no_coordinates(self):
        form = dims_form(0, 0)
        self.assertEqual(self.judged(form, form), ((), ()))

    def test_many_coordinates(self):
        chance = random.Random(115)
        form = ring_form(16)
        self.judged(form, disguised(chance, form), 5)

    def test_least_forms_with_too_many_terms(self):
        # The least form has more than 4,000 terms; between does not ask for it.
        chance = random.Random(116)
        form = products_form((8, 10, 5), ("A", "B", "B", "C"), True)
        bases = [easy_base(chance, dim) for dim in form[1]]
        other = in_coordinates(form, bases)
        self.assertTrue(is_form(other))
        self.assertEqual(between(form, other), tuple(as_matrix(matrix) for matrix, _ in bases))

    def test_not_same(self):
        for one, other in ((S, LEAVES), (LEAVES, S), (with_copies(S), LEAVES), (S, with_copies(LEAVES))):
            self.assertEqual(raised(NotSame, between, one, other).part, same(one, other))

    def test_not_least(self):
        copies = with_copies(S)
        raised(NotLeast, between, copies, S)
        raised(NotLeast, between, S, copies)
        raised(NotLeast, between, copies, copies)
        unread = S[:3] + ((),)
        raised(NotLeast, between, unread, unread)
        raised(NotLeast, between, dims_form(0, 1), dims_form(0, 0))
        raised(NotLeast, between, dims_form(0, 0), dims_form(0, 1))

    def test_errors_in_their_order(self):
        other = (PAIRS, (2,), S[2], (("depth", "Tree", (NONE, ONE)),))
        for thing in NEVER:
            for function, more in ((between, ()), (is_between, (None,))):
                raised(BadForm, function, thing, S, *more)
                raised(BadForm, function, S, thing, *more)
                raised(BadForm, function, thing, thing, *more)
        for function, more in ((between, ()), (is_between, (None,))):
            raised(BadForm, function, dims_form(17), dims_form(17), *more)
            raised(Unlike, function, S, other, *more)
            raised(Unlike, function, with_copies(S), dims_form(0), *more)
            raised(Unlike, function, S, S[:3] + ((),), *more)
        great = full_form(20001)
        raised(TooGreat, between, great, great)
        # Too great stands ahead of unlike numbers.
        reads = (("last", "T", (ONE,) + (NONE,) * 9),)
        raised(TooGreat, between, great, great[:3] + (reads,))
        raised(TooGreat, between, full_form(20001), full_form(20001)[:3] + (reads,))


class IsBetween(unittest.TestCase):

    def test_one_wrong_entry(self):
        self.assertIs(is_between(S, LEAST_S, TO_LEAST), True)
        for at in (0, 1):
            for place in (0, 1):
                for entry in (NONE, ONE, (5, 2), (-7, 3)):
                    wrong = with_part(TO_LEAST, (0, at, place), entry)
                    self.assertIs(is_between(S, LEAST_S, wrong), False)

    def test_matrices_without_an_inverse(self):
        for matrix in (((NONE, NONE), (NONE, NONE)), ((ONE, ONE), (ONE, ONE))):
            self.assertIs(is_between(S, LEAST_S, (matrix,)), False)
        # Where nothing is told, only the inverse is missing.
        nothing = (PAIRS, (2,), (((), ()),), ())
        self.assertIs(is_between(nothing, nothing, (((ONE, ONE), (ONE, ONE)),)), False)
        self.assertIs(is_between(nothing, nothing, (((ONE, ONE), (ONE, (2, 1))),)), True)

    def test_dims_that_differ(self):
        copies = with_copies(S)
        self.assertIs(is_between(S, copies, TO_LEAST), False)
        self.assertIs(is_between(copies, S, TO_LEAST), False)
        self.assertIs(is_between(dims_form(1, 1), dims_form(1, 2), (((ONE,),), ((ONE,),))), False)

    def test_matrices_of_other_sizes(self):
        for thing in ((), ((),), TO_LEAST * 2, (TO_LEAST[0][:1],), (((ONE,),),),
                      (tuple(row[:1] for row in TO_LEAST[0]),), (TO_LEAST[0] + ((NONE, NONE),),)):
            self.assertIs(is_between(S, LEAST_S, thing), False)

    def test_it_asks_neither_whether_forms_are_least_nor_what_they_tell(self):
        chance = random.Random(117)
        for form, _ in small_forms(118, 30, 2):
            form = with_copies(form)
            bases = [random_base(chance, dim) for dim in form[1]]
            matrices = tuple(as_matrix(matrix) for matrix, _ in bases)
            other = in_coordinates(form, bases)
            self.assertIs(is_between(form, other, matrices), True)
            for at, (name, kind, vector) in enumerate(other[3]):
                for place, entry in enumerate(vector):
                    more = ratio(reference.Fraction(*entry) + 1)
                    wrong = with_part(other, (3, at, 2, place), more)
                    self.assertIs(is_between(form, wrong, matrices), False)
                self.assertEqual((name, kind), form[3][at][:2])
            for at, own in enumerate(other[2]):
                for place, terms in enumerate(own):
                    if terms:
                        wrong = with_part(other, (2, at, place), terms[1:])
                        self.assertIs(is_between(form, wrong, matrices), False)

    def test_it_does_not_ask_what_is_reached(self):
        great = full_form(20001)
        units = tuple(tuple(tuple((int(at == place), 1) for place in range(dim)) for at in range(dim))
                      for dim in great[1])
        self.assertIs(is_between(great, great, units), True)

    def test_another_thing_at_each_place(self):
        for version in spoilt(TO_LEAST):
            self.assertIs(is_between(S, LEAST_S, version), False)
        for thing in NEVER:
            self.assertIs(is_between(S, LEAST_S, thing), False)
            self.assertIs(is_between(S, LEAST_S, (thing,)), False)
            self.assertIs(is_between(S, LEAST_S, ((thing, TO_LEAST[0][1]),)), False)


if __name__ == "__main__":
    unittest.main()
