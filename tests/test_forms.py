"""Points [12] and [17]: forms and wide forms."""

import unittest

from sameontrees.errors import BadForm
from sameontrees.forms import is_form, number, program_of, vectors
from sameontrees.reached import closing, is_closing, reached
from tests.common import (BINARY, CHAIN, MIXED_FORM, NEVER, S, dims_form, great_form,
                          lone_form, raised, spoilt, with_part)


class Judged(unittest.TestCase):

    def judged(self, thing, right):
        self.assertIs(is_form(thing), right)
        if not right:
            raised(BadForm, number, thing, None, None)
            raised(BadForm, program_of, thing)

    def judged_wide(self, thing, right):
        """Judge by the functions that take wide forms; for the forms among them is_form is used."""
        rows = ((thing[0][0][1][0][0], ()),)
        if right:
            self.assertIsNotNone(vectors(thing, rows))
            self.assertIsNotNone(reached(thing))
            self.assertIs(is_closing(thing, closing(thing)), True)
        else:
            raised(BadForm, vectors, thing, rows)
            raised(BadForm, reached, thing)
            raised(BadForm, closing, thing)
            raised(BadForm, is_closing, thing, None)


class Forms(Judged):

    def test_forms(self):
        for form in (S, MIXED_FORM, lone_form(0), lone_form(16), dims_form(0, 0), great_form(3, 9)):
            self.judged(form, True)

    def test_what_is_none(self):
        for thing in (*NEVER, *spoilt(S), *spoilt(MIXED_FORM)):
            self.judged(thing, False)
            raised(BadForm, reached, thing)
            raised(BadForm, closing, thing)
            raised(BadForm, vectors, thing, None)
            raised(BadForm, is_closing, thing, None)
        for thing in (S[:3], S + ((),), (S,), S[::-1]):
            self.judged(thing, False)

    def test_kinds(self):
        self.judged(with_part(S, (0,), BINARY), False)
        self.judged(with_part(S, (0,), ()), False)
        self.judged(((), (), (), ()), False)
        self.judged(with_part(S, (0,), S[0] + S[0]), False)

    def test_dims(self):
        for dims in ((), (1,), (3,), (2, 2), (-1,), (2, 0), ((2,),)):
            self.judged(with_part(S, (1,), dims), False)
        self.judged(with_part(with_part(S, (1,), (3,)), (3,), ()), True)
        for dim in (-1, 0, 1, 15, 16, 17, 10 ** 30):
            self.judged(dims_form(dim), 0 <= dim <= 16)
            self.judged(dims_form(0, dim), 0 <= dim <= 16)

    def test_dims_together(self):
        for dims in ((16, 16), (16, 16, 0), (16, 15, 1), (10, 10, 12), (6, 6, 6, 6, 6, 2)):
            self.judged(dims_form(*dims), True)
        for dims in ((16, 16, 1), (11, 11, 11), (6, 6, 6, 6, 6, 3), (16,) * 6):
            self.judged(dims_form(*dims), False)

    def test_maps(self):
        maps = S[2]
        for wrong in ((), maps * 2, (maps[0][:1],), (maps[0] + ((),),), ((),), (maps[0][0],)):
            self.judged(with_part(S, (2,), wrong), False)
        self.judged(with_part(S, (2,), (((), ()),)), True)

    def test_terms_ascend(self):
        terms = S[2][0][1]
        self.judged(with_part(S, (2, 0, 1), terms[1:]), True)
        self.judged(with_part(S, (2, 0, 1), terms[::2]), True)
        self.judged(with_part(S, (2, 0, 1), terms[::-1]), False)
        for at in range(3):
            swapped = terms[:at] + (terms[at + 1], terms[at]) + terms[at + 2:]
            self.judged(with_part(S, (2, 0, 1), swapped), False)
        self.judged(with_part(S, (2, 0, 0), S[2][0][0][::-1]), False)

    def test_terms_twice(self):
        terms = S[2][0][1]
        for at, (row, cols, _) in enumerate(terms):
            for other in (terms[at], (row, cols, (5, 1)), (row, cols, (-1, 1))):
                twice = terms[:at + 1] + (other,) + terms[at + 1:]
                self.judged(with_part(S, (2, 0, 1), twice), False)

    def test_terms_of_two_and_four_entries(self):
        for term in ((1, (1, 1)), (1, (1, 1), (1, 1), (1, 1)), (1, (1, 1), 1, 1), (), ((1, 1),)):
            self.judged(with_part(S, (2, 0, 1), S[2][0][1] + (term,)), False)
            self.judged(with_part(S, (2, 0, 1), (term,)), False)

    def test_columns(self):
        for cols, right in (((1, 1), True), ((0, 0), False), ((1, 2), False), ((2, 1), False),
                            ((1, -1), False), ((-1, 1), False), ((1,), False), ((1, 1, 0), False),
                            ((), False), (1, False)):
            terms = S[2][0][1] + ((1, cols, (1, 1)),)
            self.judged(with_part(S, (2, 0, 1), terms), right)

    def test_rows(self):
        for row, right in ((0, False), (1, True), (2, False), (-1, False), (10 ** 20, False)):
            terms = S[2][0][1] + ((row, (1, 1), (1, 1)),)
            self.judged(with_part(S, (2, 0, 1), terms), right)

    def test_columns_of_number_fields(self):
        dims = (1,)
        for cols, right in (((0, 0), True), ((1, 0), True), ((2, 0), False), ((-1, 0), False),
                            ((0, 1), False)):
            maps = (((), (), ((0, cols, (1, 1)),)),)
            self.judged((CHAIN, dims, maps, ()), right)
        # The coordinates of a number field are 0 and 1, however great the dim of the kind is.
        self.judged((CHAIN, (5,), (((), (), ((0, (2, 0), (1, 1)),)),), ()), False)
        self.judged((CHAIN, (0,), (((), (), ()),), ()), True)

    def test_ratios(self):
        for part, right in (((0, 1), False), ((2, 4), False), ((1, 0), False), ((1, -1), False),
                            ((-1, 1), True), ((10 ** 50, 3), True), ((3, 10 ** 50), True),
                            ((2, 2), False), ((-3, 6), False), ((1,), False), ((1, 1, 1), False),
                            (1, False)):
            self.judged(with_part(S, (2, 0, 0, 0, 2), part), right)
            self.judged(with_part(S, (3, 0, 2, 0), part), right or part == (0, 1))

    def test_terms_of_a_maker(self):
        self.judged(great_form(7, 4000), True)
        self.judged(great_form(7, 4001), False)
        both = with_part(great_form(7, 4000), (0, 0, 1, 0, 1), ("Dot",) * 4)
        self.judged(with_part(both, (2, 0, 0), both[2][0][1]), True)

    def test_reads(self):
        for wrong in (("Size", "Tree", ((0, 1), (1, 1))), ("fun", "Tree", ((0, 1), (1, 1))),
                      ("size", "Leaf", ((0, 1), (1, 1))), ("size", "number", ((0, 1), (1, 1))),
                      ("size", "tree", ((0, 1), (1, 1))), ("size", "Tree", ((0, 1),)),
                      ("size", "Tree", ((0, 1),) * 3), ("size", "Tree", ()), ("size", "Tree"),
                      ("size", "Tree", ((0, 1), (1, 1)), ()), ("elevenlongs", "Tree", ((0, 1),) * 2)):
            self.judged(with_part(S, (3, 0), wrong), False)
        self.judged(with_part(S, (3,), S[3] * 2), False)
        other = ("other", "Tree", ((0, 1), (0, 1)))
        self.judged(with_part(S, (3,), S[3] + (other,)), True)
        self.judged(with_part(S, (3,), S[3] + (other,) + S[3]), False)
        self.judged(with_part(S, (3,), ()), True)

    def test_none_to_sixty_reads(self):
        for many in (59, 60, 61, 200):
            reads = tuple((f"r{at}", "Dot", ((1, 1),)) for at in range(many))
            self.judged(lone_form(1, reads=reads), many <= 60)

    def test_reads_of_a_kind_without_coordinates(self):
        self.judged(lone_form(0, reads=(("r", "Dot", ()),)), True)
        self.judged(lone_form(0, leaf=((0, (), (1, 1)),)), False)
        self.judged(lone_form(1, reads=(("r", "Dot", ()),)), False)


class WideForms(Judged):

    def test_dims(self):
        for dims in ((16,), (17,), (32,), (16, 17), (32, 32), (32, 16, 16), (10, 11, 11, 11, 11, 10)):
            self.judged_wide(dims_form(*dims), True)
            self.judged(dims_form(*dims), dims == (16,))
        for dims in ((33,), (0, 33), (32, 32, 1), (11, 11, 11, 11, 11, 10), (-1, 4)):
            self.judged_wide(dims_form(*dims), False)

    def test_terms(self):
        for many in (4000, 4001, 8000, 8001):
            form = great_form(7, many)
            self.judged_wide(form, many <= 8000)
            self.judged(form, many == 4000)

    def test_they_are_as_forms_else(self):
        wide = dims_form(17, 20)
        for wrong in (with_part(wide, (2, 0, 0), ((17, (), (1, 1)),)),
                      with_part(wide, (2, 0, 1), ((0, (17,), (1, 1)),)),
                      with_part(wide, (2, 0, 1), ((0, (1,), (1, 1)), (0, (0,), (1, 1)))),
                      with_part(wide, (2, 0, 1), ((0, (1,), (0, 1)),)),
                      with_part(wide, (3,), (("r", "K0", ()),)), list(wide)):
            self.judged_wide(wrong, False)
        for right in (with_part(wide, (2, 0, 0), ((16, (), (1, 1)),)),
                      with_part(wide, (2, 0, 1), ((0, (16,), (1, 1)),))):
            self.judged_wide(right, True)

    def test_functions_that_take_forms_alone(self):
        wide = with_part(dims_form(17), (3,), (("r", "K0", ((1, 1),) * 17),))
        self.judged_wide(wide, True)
        raised(BadForm, number, wide, "r", (("Z0", ()),))
        raised(BadForm, program_of, wide)


if __name__ == "__main__":
    unittest.main()
