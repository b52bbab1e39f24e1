"""Point [15]: a program that tells what a form's reads do."""

import random
import unittest

from sameontrees.checks import check, tell
from sameontrees.errors import BadForm, TooGreat
from sameontrees.forms import formed, is_form, number, program_of
from sameontrees.programs import is_program, read_program, write_program
from sameontrees.trees import rows_of
from tests import reference
from tests.common import (MIXED, MIXED_FORM, NEVER, PAIRS, S, dims_form, lone_form, raised, spoilt,
                          with_part)

GREAT = 10 ** 9


class Judged(unittest.TestCase):

    def judged(self, form, integers=(0, 1, -2), most=3, few=6):
        """The program, which has all that is promised, and tells the same of some trees."""
        program = program_of(form)
        self.assertTrue(is_program(program))
        self.assertIsNone(check(program))
        kinds, functions = program
        reads = form[3]
        self.assertEqual(kinds, form[0])
        self.assertEqual([head[:2] for head in functions[:len(reads)]], [read[:2] for read in reads])
        self.assertEqual(read_program(write_program(program)), program)
        for name, kind, _ in reads:
            for size in range(1, most + 1):
                for tree in reference.trees_of_size(kinds, kind, size, integers)[:few]:
                    words = reference.words_of_nested(tree)
                    told = number(form, name, rows_of(kinds, kind, words))
                    self.assertEqual(tell(program, name, words), told)
                    self.assertEqual(reference.ratio(
                        reference.told_of_nested(program, name, tree)), told)
        return program


class Programs(Judged):

    def test_small_forms(self):
        self.judged(S)
        self.judged(MIXED_FORM)
        self.judged(lone_form(0))
        self.judged(lone_form(0, reads=(("r", "Dot", ()),)))
        self.judged(lone_form(1, reads=(("r", "Dot", ((7, 2),)),)))
        self.judged(lone_form(3, leaf=((0, (), (1, 2)), (2, (), (-5, 3))),
                              reads=(("r", "Dot", ((1, 1), (1, 1), (2, 1))),)))
        self.assertEqual(program_of(with_part(MIXED_FORM, (3,), ()))[1][:0], ())

    def test_random_forms(self):
        chance = random.Random(41)
        for _ in range(150):
            kinds = reference.random_kinds(chance)
            self.judged(reference.random_form(chance, kinds, 3, chance.choice((0.2, 0.6))), most=3)

    def test_forms_of_random_programs(self):
        chance = random.Random(42)
        for _ in range(60):
            kinds = reference.random_kinds(chance)
            form = formed(reference.random_program(chance, kinds))
            again = formed(self.judged(form))
            self.assertTrue(is_form(again))

    def test_reads_with_any_names(self):
        names = ("f0", "f1", "f10", "f2", "a", "b", "x", "c0", "k0", "abcdefghij", "r1", "f00")
        reads = tuple((name, "Tree", ((at, 1), (1, at + 1))) for at, name in enumerate(names))
        self.judged(with_part(S, (3,), reads))
        reads = tuple((f"f{at}", "Tree", ((at, 1), (1, 2))) for at in range(58))
        self.judged(with_part(S, (3,), reads), most=2)

    def test_reads_of_sums_that_are_0(self):
        maps = ((((0, (), (1, 1)), (1, (), (-1, 1))),
                 ((0, (0, 0), (2, 1)), (1, (0, 0), (-2, 1)), (1, (1, 1), (1, 3)))),)
        self.judged((PAIRS, (2,), maps, (("r", "Tree", ((1, 1), (1, 1))),)))


class Found(Judged):
    """Where a program must be found."""

    def test_dims_and_reads_of_sixty(self):
        for reads, dims in ((60, (0, 0)), (44, (16, 0)), (28, (16, 16)), (59, (1, 0)), (0, (16, 16))):
            form = with_part(dims_form(*dims), (3,), tuple(
                (f"r{at}", "K0", ((1, 1),) * dims[0]) for at in range(reads)))
            self.assertLessEqual(sum(dims) + reads, 60)
            self.judged(form)

    def test_makers_with_400_terms_together(self):
        chance = random.Random(43)
        kinds = (("T", (("L", ()), ("Q", ("T",) * 4), ("P", ("T", "number", "T", "T")))),)
        for many, other in ((399, 0), (0, 399), (200, 199), (60, 61), (61, 60), (338, 61)):
            for rows in (2, 5):
                maps = (((0, (), (1, 1)),), self.terms(chance, many, rows, (5,) * 4),
                        self.terms(chance, other, rows, (5, 2, 5, 5)))
                form = (kinds, (5,), (maps,), (("r", "T", ((1, 1), (2, 1), (0, 1), (3, 1), (-1, 1))),
                                               ("s", "T", ((1, 2),) * 5)))
                self.judged(form, integers=(1, 3), most=5, few=2)

    def test_six_makers_with_400_terms_together(self):
        chance = random.Random(44)
        kinds = (("T", tuple((f"M{at}", ("T",) * 4) for at in range(6))),)
        for shares in ((67, 67, 67, 67, 66, 66), (61,) * 5 + (95,), (0, 0, 0, 0, 0, 400),
                       (60, 60, 60, 60, 60, 100), (1, 1, 1, 1, 1, 395)):
            maps = tuple(self.terms(chance, share, 1, (5,) * 4) for share in shares)
            self.judged((kinds, (5,), (maps,), (("r", "T", ((3, 2),) + ((0, 1),) * 4),)))

    def terms(self, chance, many, rows, widths):
        """So many terms, none with the ratio 1."""
        places = set()
        while len(places) < many:
            places.add((chance.randrange(rows), tuple(chance.randrange(width) for width in widths)))
        return tuple((row, cols, chance.choice(((2, 1), (-1, 3), (7, 5))))
                     for row, cols in sorted(places))

    def test_ratios_at_the_bounds(self):
        for ratio in ((GREAT, 1), (-GREAT, 1), (1, GREAT), (GREAT - 1, GREAT), (-GREAT, GREAT - 1)):
            form = lone_form(1, leaf=((0, (), ratio),), reads=(("r", "Dot", ((1, 1),)),))
            self.assertEqual(tell(self.judged(form), "r", ("One",)), ratio)

    def test_ratios_that_are_within_the_bounds_when_multiplied_and_summed(self):
        # The read's own entries, and its products, are beyond the bounds.
        form = lone_form(2, leaf=((0, (), (1, GREAT)), (1, (), (1, 3))),
                         reads=(("r", "Dot", ((10 ** 12, 1), (0, 1))),
                                ("s", "Dot", ((10 ** 18, 1), (-3 * GREAT + 6, 1))),
                                ("t", "Dot", ((0, 1), (3 * GREAT, 1)))))
        program = self.judged(form)
        self.assertEqual([tell(program, name, ("One",)) for name in "rst"],
                         [(1000, 1), (2, 1), (GREAT, 1)])


class Bounds(Judged):
    """Where either may come, but nothing else."""

    def either(self, form):
        """Judge the program, if one is found."""
        try:
            self.judged(form, few=2)
        except TooGreat:
            return None
        return True

    def test_ratios_beyond_the_bounds(self):
        for ratio in ((GREAT + 1, 1), (-GREAT - 1, 1), (1, GREAT + 1), (10 ** 50, 10 ** 40 + 1)):
            self.either(lone_form(1, leaf=((0, (), ratio),), reads=(("r", "Dot", ((1, 1),)),)))
            self.either(lone_form(1, leaf=((0, (), (1, 1)),), reads=(("r", "Dot", (ratio,)),)))

    def test_too_many_functions_or_terms(self):
        self.either(with_part(dims_form(16, 16), (3,), tuple(
            (f"r{at}", "K0", ((1, 1),) * 16) for at in range(60))))
        chance = random.Random(45)
        kinds = (("T", (("L", ()), ("Q", ("T",) * 4))),)
        for many in (500, 2000, 3600, 3601, 3999):
            for rows in (1, 8):
                terms = Found.terms(self, chance, many, rows, (8,) * 4)
                self.either((kinds, (8,), ((((0, (), (1, 1)),), terms),),
                             (("r", "T", ((1, 1),) * 8),)))


class Wrong(unittest.TestCase):

    def test_what_is_no_form(self):
        for thing in (*NEVER, *spoilt(S), MIXED, S[:3], dims_form(17)):
            raised(BadForm, program_of, thing)


if __name__ == "__main__":
    unittest.main()
